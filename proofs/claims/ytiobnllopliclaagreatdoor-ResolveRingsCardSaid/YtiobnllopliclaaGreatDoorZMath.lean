/- Names that are followed, as plain mathematics: which alias leads, one step, the way to the end. By an AI agent. -/
import Derived.Test.YtiobnllopliclaaGreatDoorEY
namespace Go.Proofs.YtiobnllopliclaaGreatDoor
open Go.RowKit
set_option linter.unusedVariables false
noncomputable def candB (n:List UInt8) (e:EN):Bool:=(aliasE e.2).2&&underV n e.1
noncomputable def lessB (r:Option (List UInt8 × List UInt8)) (e:EN):Bool:=match r with
 | none=>true
 | some p=>decide (depthV e.1<depthV p.1)
noncomputable def nextR (n:List UInt8) (r:Option (List UInt8 × List UInt8)) (e:EN):Option (List UInt8 × List UInt8):=
 if (candB n e&&lessB r e)=true then some (e.1,(aliasE e.2).1) else r
noncomputable def leadR (n:List UInt8) (L:List EN):Option (List UInt8 × List UInt8):=L.foldl (nextR n) none
noncomputable def hitV:List EN→List UInt8→Option (List UInt8)
 | [],_=>none
 | e::L,a=>if e.1=a∧(aliasE e.2).2=true then some (aliasE e.2).1 else hitV L a
noncomputable def leadP (L:List EN):List (List UInt8)→Option (List UInt8 × List UInt8)
 | []=>none
 | a::D=>match hitV L a with
  | some t=>some (a,t)
  | none=>leadP L D
structure BestL (n:List UInt8) (L:List EN) (f t:List UInt8) (i:Nat):Prop where
 ex:∃e,L[i]?=some e∧candB n e=true∧e.1=f∧(aliasE e.2).1=t
 min:∀(j:Nat) (e:EN),L[j]?=some e→candB n e=true→depthV f≤depthV e.1∧(depthV e.1=depthV f→i≤j)
def Best (n:List UInt8) (L:List EN):Option (List UInt8 × List UInt8)→Prop
 | none=>∀e∈L,candB n e=false
 | some p=>∃i,BestL n L p.1 p.2 i
theorem Best.one {n:List UInt8} {L:List EN}:∀{r q:Option (List UInt8 × List UInt8)},Best n L r→Best n L q→r=q
 | none,none,_,_=>rfl
 | none,some p,h,⟨i,k⟩=>by
  obtain⟨e,h1,h2,_⟩:=k.ex
  rw[h e (List.mem_of_getElem? h1)] at h2
  cases h2
 | some p,none,⟨i,k⟩,h=>by
  obtain⟨e,h1,h2,_⟩:=k.ex
  rw[h e (List.mem_of_getElem? h1)] at h2
  cases h2
 | some p,some q,⟨i,h⟩,⟨j,k⟩=>by
  obtain⟨e,h1,h2,h3,h4⟩:=h.ex
  obtain⟨d,k1,k2,k3,k4⟩:=k.ex
  have a:=h.min j d k1 k2
  have b:=k.min i e h1 h2
  rw[h3] at b
  rw[k3] at a
  have hd:depthV p.1=depthV q.1:=Nat.le_antisymm a.1 b.1
  have hij:i=j:=Nat.le_antisymm (a.2 hd.symm) (b.2 hd)
  subst hij
  rw[h1] at k1
  obtain rfl:=Option.some.inj k1
  exact congrArg some (Prod.ext (h3.symm.trans k3) (h4.symm.trans k4))
theorem Best.step {n:List UInt8} {L:List EN} {r:Option (List UInt8 × List UInt8)} (h:Best n L r) (e:EN):Best n (L++[e]) (nextR n r e):=by
 have split:∀(j:Nat) (d:EN),(L++[e])[j]?=some d→L[j]?=some d∨(j=L.length∧d=e):=fun j d hd=>by
  by_cases hj:j<L.length
  ·rw [List.getElem?_append_left hj] at hd;exact .inl hd
  ·have hl:=(List.getElem?_eq_some_iff.1 hd).1
   simp only[List.length_append,List.length_cons,List.length_nil] at hl
   have hj2:j=L.length:=by omega
   subst hj2
   simp at hd
   exact .inr ⟨rfl,hd.symm⟩
 unfold nextR
 by_cases hc:(candB n e&&lessB r e)=true
 ·rw [if_pos hc]
  obtain⟨h1,h2⟩:=(Bool.and_eq_true _ _).mp hc
  refine⟨L.length,⟨e,by simp,h1,rfl,rfl⟩,fun j d hd hcd=>?_⟩
  rcases split j d hd with hd | ⟨rfl,rfl⟩
  ·cases r with
   | none=>rw[h d (List.mem_of_getElem? hd)] at hcd;cases hcd
   | some p=>
    obtain⟨i,hb⟩:=h
    have h3:=(hb.min j d hd hcd).1
    have h4:depthV e.1<depthV p.1:=of_decide_eq_true h2
    exact⟨by show depthV e.1≤_;omega,fun h5=>absurd h5 (by show ¬_=depthV e.1;omega)⟩
  ·exact ⟨Nat.le_refl _,fun _=>Nat.le_refl _⟩
 ·rw [if_neg hc]
  cases r with
  | none=>
   intro d hd
   rcases List.mem_append.1 hd with hd | hd
   ·exact h d hd
   ·obtain rfl:=List.mem_singleton.1 hd
    have:(candB n d&&true)≠true:=hc
    rw[Bool.and_true] at this
    exact Bool.eq_false_iff.2 this
  | some p=>
   obtain⟨i,hb⟩:=h
   obtain⟨d,h1,h2,h3,h4⟩:=hb.ex
   have hi:=(List.getElem?_eq_some_iff.1 h1).1
   refine⟨i,⟨d,by rw[List.getElem?_append_left hi];exact h1,h2,h3,h4⟩,fun j x hx hcx=>?_⟩
   rcases split j x hx with hx | ⟨rfl,rfl⟩
   ·exact hb.min j x hx hcx
   ·refine ⟨?_,fun _=>Nat.le_of_lt hi⟩
    rcases Nat.lt_or_ge (depthV x.1) (depthV p.1) with h5 | h5
    ·exact absurd (show (candB n x&&lessB (some p) x)=true by rw[hcx];exact decide_eq_true h5) hc
    ·exact h5
theorem fold_best {n:List UInt8}:∀(M:List EN) {L:List EN} {r:Option (List UInt8 × List UInt8)},Best n L r→Best n (L++M) (M.foldl (nextR n) r)
 | [],L,r,h=>by rw[List.append_nil];exact h
 | e::M,L,r,h=>by
  have:=fold_best M (h.step e)
  rw[List.append_assoc] at this
  exact this
theorem leadR_best (n:List UInt8) (L:List EN):Best n L (leadR n L):=by
 have:=fold_best (n:=n) L (L:=[]) (r:=none) (fun e he=>by cases he)
 exact this
theorem hit_some {a:List UInt8}:∀{L:List EN} {t:List UInt8},hitV L a=some t→∃i e,L[i]?=some e∧e.1=a∧(aliasE e.2).2=true∧(aliasE e.2).1=t∧∀(j:Nat) (d:EN),L[j]?=some d→d.1=a→(aliasE d.2).2=true→i≤j
 | [],t,h=>by unfold hitV at h;cases h
 | e::L,t,h=>by
  unfold hitV at h
  split at h
  ·rename_i hc
   exact⟨0,e,rfl,hc.1,hc.2,Option.some.inj h,fun _ _ _ _ _=>Nat.zero_le _⟩
  ·rename_i hc
   obtain⟨i,d,h1,h2,h3,h4,h5⟩:=hit_some h
   refine⟨i+1,d,by simpa using h1,h2,h3,h4,fun j x hx hx1 hx2=>?_⟩
   cases j with
   | zero=>
    obtain rfl:e=x:=by simpa using hx
    exact absurd ⟨hx1,hx2⟩ hc
   | succ j=>exact Nat.succ_le_succ (h5 j x (by simpa using hx) hx1 hx2)
theorem hit_none {a:List UInt8}:∀{L:List EN},hitV L a=none→∀e∈L,e.1=a→(aliasE e.2).2=false
 | [],_,e,he,_=>by cases he
 | x::L,h,e,he,hea=>by
  unfold hitV at h
  split at h
  ·cases h
  ·rename_i hc
   rcases List.mem_cons.1 he with rfl | he
   ·exact Bool.eq_false_iff.2 fun hh=>hc ⟨hea,hh⟩
   ·exact hit_none h e he hea
def BestD (n:List UInt8) (L:List EN) (D:List (List UInt8)):Option (List UInt8 × List UInt8)→Prop
 | none=>∀e∈L,candB n e=true→e.1 ∉ D
 | some p=>∃i e,L[i]?=some e∧candB n e=true∧e.1=p.1∧(aliasE e.2).1=p.2∧p.1∈D∧∀(j:Nat) (d:EN),L[j]?=some d→candB n d=true→d.1∈D→depthV p.1≤depthV d.1∧(depthV d.1=depthV p.1→i≤j)
theorem leadP_bestD (n:List UInt8) (L:List EN):∀(D:List (List UInt8)),(∀a∈D,underV n a=true)→D.Pairwise (fun a b=>depthV a<depthV b)→BestD n L D (leadP L D)
 | [],_,_=>fun e _ _ h=>by cases h
 | a::D,hu,hp=>by
  obtain⟨ha,hp⟩:=List.pairwise_cons.1 hp
  have ih:=leadP_bestD n L D (fun b hb=>hu b (by simp[hb])) hp
  have cand2:∀d:EN,candB n d=true→(aliasE d.2).2=true:=fun d hd=>((Bool.and_eq_true _ _).mp hd).1
  unfold leadP
  cases hh:hitV L a with
  | some t=>
   obtain⟨i,e,h1,h2,h3,h4,h5⟩:=hit_some hh
   refine⟨i,e,h1,?_,h2,h4,by simp,fun j d hd hcd hm=>?_⟩
   ·unfold candB
    rw[h3,h2,hu a (by simp)]
    rfl
   ·rcases List.mem_cons.1 hm with hm | hm
    ·exact ⟨by rw[hm];exact Nat.le_refl _,fun _=>h5 j d hd hm (cand2 d hcd)⟩
    ·have:=ha _ hm
     exact⟨by show depthV a≤_;omega,fun h6=>absurd h6 (by show ¬_=depthV a;omega)⟩
  | none=>
   have hn:=hit_none hh
   simp only
   cases hl:leadP L D with
   | none=>
    rw[hl] at ih
    intro e he hc hm
    rcases List.mem_cons.1 hm with hm | hm
    ·have:=cand2 e hc
     rw[hn e he hm] at this
     cases this
    ·exact ih e he hc hm
   | some p=>
    rw[hl] at ih
    obtain⟨i,e,h1,h2,h3,h4,h6,h5⟩:=ih
    refine⟨i,e,h1,h2,h3,h4,by simp[h6],fun j d hd hcd hm=>?_⟩
    rcases List.mem_cons.1 hm with hm | hm
    ·have:=cand2 d hcd
     rw[hn d (List.mem_of_getElem? hd) hm] at this
     cases this
    ·exact h5 j d hd hcd hm
def tailsJ:List (List UInt8)→List (List UInt8)
 | []=>[joinC []]
 | a::T=>joinC (a::T)::tailsJ T
noncomputable def downV (n:List UInt8):List (List UInt8):=match (partsV n).1 with
 | some T=>(tailsJ T).reverse
 | none=>[n]
theorem norm_parts {n:List UInt8} (h:normT n=(n,0)):∃S,TextsOk S∧partsV n=(some S,0)∧joinC S=n:=by
 cases pt n with
 | no e he h'=>
  rw[norm_no' h'] at h
  have:=congrArg Prod.snd h
  simp only at this
  omega
 | ok S ho h'=>
  rw[norm_yes' h'] at h
  exact⟨S,ho,h',congrArg Prod.fst h⟩
theorem tails_len:∀T:List (List UInt8),(tailsJ T).length=T.length+1
 | []=>rfl
 | a::T=>by simp[tailsJ,tails_len T]
theorem depth_join {T:List (List UInt8)} (h:TextsOk T):depthV (joinC T)=T.length:=by unfold depthV;rw[parts_join h];rfl
theorem under_join {S U:List (List UInt8)} (h:TextsOk S) (k:TextsOk U):underV (joinC S) (joinC U)=undB S U:=by unfold underV;rw[parts_join h,parts_join k]
theorem und_cons {a:List UInt8} {S U:List (List UInt8)} (h:undB S U=true):undB (a::S) U=true:=by
 have:=und_take h
 rw[←this,←List.cons_append]
 exact und_app _ _
theorem und_uncons {a:List UInt8} {S U:List (List UInt8)} (h:undB (a::S) U=true):U=a::S∨undB S U=true:=by
 have hk:=und_take h
 obtain⟨hl,_⟩:=und_yes h
 simp only[List.length_cons] at hl hk
 rcases Nat.lt_or_ge S.length U.length with h1 | h1
 ·have h2:S.length+1-U.length=0:=by omega
  rw[h2,List.take_zero,List.nil_append] at hk
  exact .inl hk
 ·have h2:S.length+1-U.length=(S.length-U.length)+1:=by omega
  rw[h2,List.take_succ_cons,List.cons_append] at hk
  have h3:=(List.cons.inj hk).2
  refine .inr ?_
  conv=>lhs;arg 1;rw[←h3]
  exact und_app _ _
theorem tails_mem:∀{S:List (List UInt8)},TextsOk S→∀a∈tailsJ S,∃U,TextsOk U∧joinC U=a∧undB S U=true∧U.length≤S.length
 | [],h,a,ha=>by
  unfold tailsJ at ha
  obtain rfl:=List.mem_singleton.1 ha
  exact⟨[],h,rfl,und_self _,Nat.le_refl _⟩
 | x::S,h,a,ha=>by
  unfold tailsJ at ha
  rcases List.mem_cons.1 ha with rfl | ha
  ·exact ⟨x::S,h,rfl,und_self _,Nat.le_refl _⟩
  ·obtain ⟨U,h1,h2,h3,h4⟩:=tails_mem h.tail a ha
   exact⟨U,h1,h2,und_cons h3,by simp only[List.length_cons];omega⟩
theorem mem_tails:∀{S U:List (List UInt8)},undB S U=true→joinC U∈tailsJ S
 | [],U,h=>by
  obtain⟨h1,_⟩:=und_yes h
  obtain rfl:U=[]:=List.eq_nil_of_length_eq_zero (by simpa using h1)
  simp[tailsJ]
 | x::S,U,h=>by
  unfold tailsJ
  rcases und_uncons h with rfl | h
  ·simp
  ·exact List.mem_cons_of_mem _ (mem_tails h)
theorem tails_desc:∀{S:List (List UInt8)},TextsOk S→(tailsJ S).Pairwise (fun a b=>depthV b<depthV a)
 | [],_=>by unfold tailsJ;exact List.pairwise_singleton _ _
 | x::S,h=>by
  unfold tailsJ
  refine List.pairwise_cons.2 ⟨fun a ha=>?_,tails_desc h.tail⟩
  obtain⟨U,h1,h2,_,h4⟩:=tails_mem h.tail a ha
  rw[←h2,depth_join h1,depth_join h]
  simp only[List.length_cons]
  omega
theorem parent_join {a:List UInt8} {T:List (List UInt8)} (h:TextsOk (a::T)):parentV (joinC (a::T))=(joinC T,true):=by unfold parentV;rw[parts_join h]
theorem parent_root:parentV (joinC [])=([],false):=by unfold parentV;rw[parts_join TextsOk.root]
theorem down_join {S:List (List UInt8)} (h:TextsOk S):downV (joinC S)=(tailsJ S).reverse:=by unfold downV;rw[parts_join h]
theorem down_len {n:List UInt8} (h:normT n=(n,0)):(downV n).length≤13∧∀a∈downV n,a.length≤1000:=by
 obtain⟨S,ho,hp,rfl⟩:=norm_parts h
 rw[down_join ho,List.length_reverse,tails_len]
 refine⟨by have:=ho.le;omega,fun a ha=>?_⟩
 obtain⟨U,h1,h2,_⟩:=tails_mem ho a (List.mem_reverse.1 ha)
 rw[←h2]
 exact h1.len
theorem lead_eq {n:List UInt8} (hn:normT n=(n,0)) {L:List EN} (hL:∀e∈L,normT e.1=(e.1,0)):leadP L (downV n)=leadR n L:=by
 obtain⟨S,ho,hp,rfl⟩:=norm_parts hn
 rw[down_join ho]
 have h1:∀a∈(tailsJ S).reverse,underV (joinC S) a=true:=fun a ha=>by
  obtain⟨U,k1,k2,k3,_⟩:=tails_mem ho a (List.mem_reverse.1 ha)
  rw[←k2,under_join ho k1]
  exact k3
 have h2:(tailsJ S).reverse.Pairwise (fun a b=>depthV a<depthV b):=List.pairwise_reverse.2 (tails_desc ho)
 have h3:∀e∈L,candB (joinC S) e=true→e.1∈(tailsJ S).reverse:=fun e he hc=>by
  obtain⟨U,k1,_,k3⟩:=norm_parts (hL e he)
  have hu:=((Bool.and_eq_true _ _).mp hc).2
  rw[←k3,under_join ho k1] at hu
  rw[←k3]
  exact List.mem_reverse.2 (mem_tails hu)
 have hb:=leadP_bestD (joinC S) L _ h1 h2
 refine Best.one ?_ (leadR_best _ L)
 cases hl:leadP L (tailsJ S).reverse with
 | none=>
  rw[hl] at hb
  intro e he
  exact Bool.eq_false_iff.2 fun hc=>hb e he hc (h3 e he hc)
 | some p=>
  rw[hl] at hb
  obtain⟨i,e,k1,k2,k3,k4,_,k5⟩:=hb
  exact⟨i,⟨e,k1,k2,k3,k4⟩,fun j d hd hc=>k5 j d hd hc (h3 d (List.mem_of_getElem? hd) hc)⟩
noncomputable def stepV (L:List EN) (nm:List UInt8):List UInt8 × Bool × Int:=
 if (normT nm).2=0 then
  match leadR (normT nm).1 L with
  | none=>((normT nm).1,false,0)
  | some p=>if (moveV (normT nm).1 p.1 p.2).2=0 then ((moveV (normT nm).1 p.1 p.2).1,true,0) else ([],false,33)
 else ([],false,34)
theorem move_norm {l f t x:List UInt8} (h:moveV l f t=(x,0)):normT x=(x,0):=by
 cases rkey l with
 | no y e1 e2 k=>rw[move_1 k] at h;cases h;simp at e1
 | ok S ho k=>
  cases rkey f with
  | no y e1 e2 k2=>rw[move_2 k k2] at h;cases h;simp at e1
  | ok F ho2 k2=>
   cases rkey t with
   | no y e1 e2 k3=>rw[move_3 k k2 k3] at h;cases h;simp at e1
   | ok Z ho3 k3=>
    rw[move_4 k k2 k3] at h
    split at h
    ·obtain ⟨h1,h2,h3⟩:=fit_ok h
     have hR:TextsOk (S.take (S.length-F.length)++Z):=⟨h1,h2,fun u hu=>by
      rcases List.mem_append.1 hu with hm | hm
      ·exact ho.each u (List.mem_of_mem_take hm)
      ·exact ho3.each u hm⟩
     rw[←h3]
     exact norm_yes' (parts_join hR)
    ·cases h
theorem norm_self {n x:List UInt8} (h:normT n=(x,0)):normT x=(x,0):=by
 have:=(norm_again (l:=n) (by rw[h])).1
 rw[h] at this
 exact this
theorem norm_len1 {n:List UInt8} (h:normT n=(n,0)):n.length≤1000:=by
 have:=(norm_again (l:=n) (by rw[h])).2
 rw[h] at this
 exact this
theorem alias_len (L:List EA):(aliasE L).1.length≤1000:=by
 unfold aliasE
 split
 ·rename_i v r hv
  split
  ·cases vway aliT v with
   | other h e=>exact absurd h (by decide)
   | short h hv e=>rw[e];simp
   | long h hv hw e=>rw[e];simp
   | none h hv hw hn e=>rw[e];simp
   | name h hv hw x hn e=>rw[e];exact norm_len1 (norm_self hn)
  ·simp
 ·simp
theorem step_norm {L:List EN} {n x:List UInt8} {b:Bool} (h:stepV L n=(x,b,0)):normT x=(x,0):=by
 unfold stepV at h
 by_cases h0:(normT n).2=0
 ·rw [if_pos h0] at h
  have hn:normT n=((normT n).1,0):=Prod.ext rfl h0
  generalize (normT n).1=m at *
  cases hl:leadR m L with
  | none=>
   rw[hl] at h
   simp only[Prod.mk.injEq] at h
   rw[←h.1]
   exact norm_self hn
  | some p=>
   rw[hl] at h
   simp only at h
   by_cases h1:(moveV m p.1 p.2).2=0
   ·rw [if_pos h1] at h
    simp only[Prod.mk.injEq] at h
    rw[←h.1]
    exact move_norm (Prod.ext rfl h1)
   ·rw [if_neg h1] at h
    simp at h
 ·rw [if_neg h0] at h
  simp at h
theorem lead_none {L:List EN} (h:∀e∈L,(aliasE e.2).2=false) (n:List UInt8):leadR n L=none:=
 Best.one (leadR_best n L) (show Best n L none from fun e he=>by unfold candB;rw[h e he];rfl)
noncomputable def goV (L:List EN):Nat→List (List UInt8)→List UInt8→List (List UInt8) × List UInt8 × Int
 | 0,_,_=>([],[],36)
 | k+1,seen,n=>
  if (stepV L n).2.2=0 then
   if (stepV L n).2.1=true then
    if 16<seen.length∨(stepV L n).1∈seen then ([],[],36)
    else goV L k (seen++[(stepV L n).1]) (stepV L n).1
   else (seen,n,0)
  else ([],[],(stepV L n).2.2)
def thereB (L:List EN) (x:List UInt8):Bool:=(x==[])||L.any fun e=>e.1==x
noncomputable def wayV (L:List EN) (n:List UInt8) (follow:Bool):List (List UInt8) × List UInt8 × Int:=if follow=true then goV L 17 [n] n else ([n],n,0)
noncomputable def findV (L:List EN) (nm:List UInt8) (follow:Bool):List UInt8 × Bool × Int:=
 if (normT nm).2=0 then
  if (wayV L (normT nm).1 follow).2.2=0 then
   if thereB L (wayV L (normT nm).1 follow).2.1=true then ((wayV L (normT nm).1 follow).2.1,decide (1<(wayV L (normT nm).1 follow).1.length),0)
   else ([],false,if 1<(wayV L (normT nm).1 follow).1.length then 33 else 32)
  else ([],false,(wayV L (normT nm).1 follow).2.2)
 else ([],false,34)
theorem go_err {L:List EN} {k:Nat} {seen:List (List UInt8)} {n:List UInt8} (h:¬(stepV L n).2.2=0):goV L (k+1) seen n=([],[],(stepV L n).2.2):=by rw[goV,if_neg h]
theorem go_stay {L:List EN} {k:Nat} {seen:List (List UInt8)} {n:List UInt8} (h:(stepV L n).2.2=0) (h2:¬(stepV L n).2.1=true):goV L (k+1) seen n=(seen,n,0):=by rw[goV,if_pos h,if_neg h2]
theorem go_ring {L:List EN} {k:Nat} {seen:List (List UInt8)} {n:List UInt8} (h:(stepV L n).2.2=0) (h2:(stepV L n).2.1=true) (h3:16<seen.length∨(stepV L n).1∈seen):goV L (k+1) seen n=([],[],36):=by rw[goV,if_pos h,if_pos h2,if_pos h3]
theorem go_on {L:List EN} {k:Nat} {seen:List (List UInt8)} {n:List UInt8} (h:(stepV L n).2.2=0) (h2:(stepV L n).2.1=true) (h3:¬(16<seen.length∨(stepV L n).1∈seen)):goV L (k+1) seen n=goV L k (seen++[(stepV L n).1]) (stepV L n).1:=by rw[goV,if_pos h,if_pos h2,if_neg h3]
theorem go_end {L:List EN}:∀(k:Nat) {seen s:List (List UInt8)} {n x:List UInt8},normT n=(n,0)→goV L k seen n=(s,x,0)→normT x=(x,0)∧(stepV L x).2.2=0∧¬(stepV L x).2.1=true
 | 0,seen,s,n,x,hn,h=>by rw[goV] at h;simp at h
 | k+1,seen,s,n,x,hn,h=>by
  by_cases h1:(stepV L n).2.2=0
  ·by_cases h2:(stepV L n).2.1=true
   ·by_cases h3:16<seen.length∨(stepV L n).1∈seen
    ·rw [go_ring h1 h2 h3] at h;simp at h
    ·rw [go_on h1 h2 h3] at h
     refine go_end k ?_ h
     exact step_norm (b:=(stepV L n).2.1) (Prod.ext rfl (Prod.ext rfl h1))
   ·rw [go_stay h1 h2] at h
    simp only[Prod.mk.injEq] at h
    obtain⟨_,rfl,_⟩:=h
    exact⟨hn,h1,h2⟩
  ·rw [go_err h1] at h
   simp only[Prod.mk.injEq] at h
   exact absurd h.2.2 h1
theorem find_bad {L:List EN} {nm:List UInt8} {follow:Bool} (h:¬(normT nm).2=0):findV L nm follow=([],false,34):=by unfold findV;rw[if_neg h]
theorem find_norm {L:List EN} {nm n:List UInt8} {follow:Bool} (h:normT nm=(n,0)):findV L nm follow=if (wayV L n follow).2.2=0 then
   if thereB L (wayV L n follow).2.1=true then ((wayV L n follow).2.1,decide (1<(wayV L n follow).1.length),0)
   else ([],false,if 1<(wayV L n follow).1.length then 33 else 32)
  else ([],false,(wayV L n follow).2.2):=by unfold findV;rw[h,if_pos rfl]
theorem there_at {L:List EN} {x:List UInt8} (h:normT x=(x,0)):thereB L x=((x==[])||decide (0≤atN L x)):=by
 unfold thereB
 congr 1
 by_cases hx:∃e∈L,e.1=x
 ·obtain ⟨e,he,hex⟩:=hx
  rw[decide_eq_true (atN_yes h he hex)]
  exact List.any_eq_true.2 ⟨e,he,by rw[hex];exact beq_self_eq_true _⟩
 ·have h1:(L.any fun e=>e.1==x)=false:=by
   rw[List.any_eq_false]
   intro e he hh
   exact hx ⟨e,he,by simpa using hh⟩
  rw[h1]
  refine (decide_eq_false fun h0=>hx ?_).symm
  unfold atN at h0
  rw[if_pos (by rw[h]),h] at h0
  obtain⟨k,e,h2,h3,_⟩:=findN_some 0 h0
  exact⟨e,List.mem_of_getElem? h2,h3⟩
theorem stay_find {L:List EN} {x:List UInt8} (hn:normT x=(x,0)) (h1:(stepV L x).2.2=0) (h2:¬(stepV L x).2.1=true):findV L x true=findV L x false:=by
 rw[find_norm hn,find_norm hn]
 have:wayV L x true=wayV L x false:=by
  unfold wayV
  rw[if_pos rfl,if_neg (by simp),go_stay h1 h2]
 rw[this]
theorem find_ends (L:List EN) (nm:List UInt8):((findV L nm true).2.2≠0∧(findV L nm true).1=[])∨
  ((findV L nm true).2.2=0∧normT (findV L nm true).1=((findV L nm true).1,0)∧((findV L nm true).1=[]∨0≤atN L (findV L nm true).1)∧findV L (findV L nm true).1 true=((findV L nm true).1,false,0)):=by
 by_cases h0:(normT nm).2=0
 ·have hn:normT nm=((normT nm).1,0):=Prod.ext rfl h0
  have hs:=norm_self hn
  rw[find_norm hn]
  generalize (normT nm).1=n at *
  by_cases h1:(wayV L n true).2.2=0
  ·rw [if_pos h1]
   obtain⟨s,x,hw⟩:∃s x,wayV L n true=(s,x,0):=⟨_,_,Prod.ext rfl (Prod.ext rfl h1)⟩
   rw[hw]
   simp only
   have hg:goV L 17 [n] n=(s,x,0):=by unfold wayV at hw;rwa [if_pos rfl] at hw
   obtain⟨k1,k2,k3⟩:=go_end 17 hs hg
   by_cases h2:thereB L x=true
   ·rw [if_pos h2]
    refine .inr ⟨rfl,k1,?_,?_⟩
    ·have:=h2
     rw[there_at k1] at this
     rcases (Bool.or_eq_true _ _).mp this with h | h
     ·exact .inl (by simpa using h)
     ·exact .inr (of_decide_eq_true h)
    ·rw [stay_find k1 k2 k3,find_norm k1]
     unfold wayV
     simp[h2]
   ·rw [if_neg h2]
    refine .inl ⟨?_,rfl⟩
    simp only
    split<;>decide
  ·rw [if_neg h1]
   exact .inl ⟨h1,rfl⟩
 ·rw [find_bad h0]
  exact .inl ⟨by decide,rfl⟩
theorem find_plain {L:List EN} (h:∀e∈L,(aliasE e.2).2=false) (nm:List UInt8):findV L nm true=findV L nm false:=by
 by_cases h0:(normT nm).2=0
 ·have hn:normT nm=((normT nm).1,0):=Prod.ext rfl h0
  have hs:=norm_self hn
  rw[find_norm hn,find_norm hn]
  generalize (normT nm).1=n at *
  have hst:stepV L n=(n,false,0):=by
   unfold stepV
   rw[hs,if_pos rfl,lead_none h]
  have:wayV L n true=wayV L n false:=by
   unfold wayV
   rw[if_pos rfl,if_neg (by simp),go_stay (by rw[hst]) (by rw[hst];simp)]
  rw[this]
 ·rw [find_bad h0,find_bad h0]
theorem find_still (L:List EN) {nm n:List UInt8} (h:normT nm=(n,0)):findV L nm false=if thereB L n=true then (n,false,0) else ([],false,32):=by
 rw[find_norm h]
 unfold wayV
 simp
end Go.Proofs.YtiobnllopliclaaGreatDoor
