/- slices.SortFunc of nodes by their paths. Wants zBj in the base, and <Name>HeldT (tools/heldT.sh). By an AI agent. -/
import Derived.Test.YtdkekamkmlpnhaaGreatDoorHeldT
import Derived.Shelf.SlSortCmp.WholeK
import Derived.Test.YtdkekamkmlpnhaaGreatDoorG18
import Derived.Test.YtdkekamkmlpnhaaGreatDoorEX
set_option linter.unusedSimpArgs false
set_option linter.unusedVariables false
set_option maxRecDepth 100000
set_option maxHeartbeats 8000000
namespace Go.Proofs.YtdkekamkmlpnhaaGreatDoor
open Go.RowKit Go.Sort Go.Shelf
theorem zJh (w:World) (S1 S2:ByteArray) (A1 A2:Option Addr) (n1 c1 n2 c2:Nat) (Q1 Q2:Option Addr) (T1 T2:List (List UInt8)) (k1 d1 k2 d2:Nat) (h1:Has w w.heap.size 1 Q1 k1 (strs T1)) (h2:Has w w.heap.size 1 Q2 k2 (strs T2)) (hk:k1<=1000000):
  Calls Tryz.prog 29 #[.agg #[.string S1,.slice A1 n1 c1,.slice Q1 k1 d1],.agg #[.string S2,.slice A2 n2 c2,.slice Q2 k2 d2]] w fun e w'=>e=.returned (.int .i64 (cmpL T1 T2))/\∃q os',w'=grow (w.drewN q) os':=by
 have hb1:=below1 w (.cells #[.string S1,.slice A1 n1 c1,.slice Q1 k1 d1] 64);have hX1:Blk (w.alloc (.cells #[.string S1,.slice A1 n1 c1,.slice Q1 k1 d1] 64)) w.heap.size [.string S1,.slice A1 n1 c1,.slice Q1 k1 d1]:=Blk.new w [.string S1,.slice A1 n1 c1,.slice Q1 k1 d1] 64;obtain⟨w1,hw1⟩:∃w1,w.alloc (.cells #[.string S1,.slice A1 n1 c1,.slice Q1 k1 d1] 64)=w1:=⟨_,rfl⟩;have hs1:w1.heap.size=w.heap.size+1:=by rw[<-hw1];simp
 rw[hw1] at hb1 hX1;have hb2:=below1 w1 (.cells #[.string S2,.slice A2 n2 c2,.slice Q2 k2 d2] 64);have hX2:Blk (w1.alloc (.cells #[.string S2,.slice A2 n2 c2,.slice Q2 k2 d2] 64)) w1.heap.size [.string S2,.slice A2 n2 c2,.slice Q2 k2 d2]:=Blk.new w1 [.string S2,.slice A2 n2 c2,.slice Q2 k2 d2] 64;obtain⟨w2,hw2⟩:∃w2,w1.alloc (.cells #[.string S2,.slice A2 n2 c2,.slice Q2 k2 d2] 64)=w2:=⟨_,rfl⟩;rw[hw2] at hb2 hX2;rw[hs1] at hX2;have hbb:=hb1.trans (hb2.mono hb1.size);have HC:=hide (zBj w2 Q1 Q2 k1 d1 k2 d2 T1 T2 ((h1.below hbb).upto hbb.size) ((h2.below hbb).upto hbb.size) hk);have x1:=(hX1.grow hb2).cells 2 _ rfl;have x2:=hX2.cells 2 _ rfl;have Hgr:Hid (∃q os',w2=grow (w.drewN q) os'):=hide ⟨0,_,by rw[<-hw2,<-hw1,alloc_eq_grow,alloc_eq_grow,grow_grow];rfl⟩;have Hw:=hide (And.intro hw1 hw2);have Hs:=hide hs1;clear hb1 hX1 hw1 hs1 hb2 hX2 hw2 hbb h1 h2;generalize cmpL T1 T2=z at *;go_enter Tryz.func29,Tryz.ntmps29;go_upto_region 1 with fail;rw[Hw.out.1];(try rw[Hs.out]);rw[Hw.out.2];clear Hw Hs;obtain⟨h,hh⟩:∃h,w.heap.size=h:=⟨_,rfl⟩;rw[hh] at x1 x2;(try rw[hh]);clear hh;go_wp2_with (go_at_call 30;fail);refine HC.out.mono ?_;rintro e w3 ⟨rfl,hw3⟩;obtain rfl:=hw3.symm;clear hw3 HC x1 x2;go_wp2;go_ret;exact⟨rfl,Hgr.out⟩
def cells3 (xs:List Value) (n i:Nat):List Value:=[xs.getD ((if i<n then i else 0)*3) (.bool false),xs.getD ((if i<n then i else 0)*3+1) (.bool false),xs.getD ((if i<n then i else 0)*3+2) (.bool false)]
theorem zLw (xs:List Value) (n:Nat) (hl:xs.length=n*3) (t:Nat) (ht:t<n*3):xs[t]?=some ((flatK (cells3 xs n) 3 (Array.range n))[t]!):=by
 rw[get_flatK (cells3 xs n) 3 (Array.range n) t (by simpa using ht)];have hi:t/3<n:=by omega
 have hb:(Array.range n)[t/3]! =t/3:=by simp[hi]
 rw[hb];unfold cells3;rw[if_pos hi];have hx:∀j,j<n*3->xs[j]?=some (xs.getD j (.bool false)):=fun j hj=>by rw[List.getD_eq_getElem?_getD,List.getElem?_eq_getElem (by omega)];rfl
 rw[hx t ht];have h3:t % 3=0\/t % 3=1\/t % 3=2:=by omega
 rcases h3 with h | h | h
 ·rw [h];have:t/3*3=t:=by omega
  simp[this]
 ·rw [h];have:t/3*3+1=t:=by omega
  simp[this]
 ·rw [h];have:t/3*3+2=t:=by omega
  simp[this]
theorem zOv {w:World} {base g n cap:Nat} {xs:List Value} (h:w.ownsRow base 64 3 (.slice (some ⟨g,0,none⟩) n cap) n xs):HoldsK (cells3 xs n) 3 w g 0 (Array.range n):=by
 have hn:=h.1;rcases h.2 with⟨h0,_⟩ | ⟨g',cap',cur,hv,_,hh,_,_,hsz,_⟩
 ·cases h0
 ·simp only[Value.slice.injEq,Option.some.injEq,Addr.mk.injEq] at hv;obtain⟨⟨rfl,_⟩,_⟩:=hv;intro j hj;rw[size_flatK] at hj;simp only[Array.size_range] at hj;have hc:=h.cellAt j (by omega);have hf:=zLw xs n hn j hj;refine⟨?_,?_⟩
  ·rw [Nat.zero_add,hc,hf];rfl
  ·simp [World.frozen?,hh]
theorem zG4 {α:Type} [Inhabited α] (enc:α->List Value) (w:World) (g k n:Nat) (d:Array α) (os:Array Obj) (j:Nat) (hj:j<w.heap.size) (hne:j≠g):(sortWorldK enc k w g 0 n d os).heap[j]?=w.heap[j]?:=by
 unfold sortWorldK;simp only[grow,putRowK,putRow,mapBlock,Sort.ahead];rw[Array.getElem?_append_left (by simp;omega),Array.getElem?_modify,if_neg (by omega)]
theorem zF8 {α:Type} [Inhabited α] (enc:α->List Value) (k:Nat) {base:Nat} (w:World) (g n:Nat) (d:Array α) (os:Array Obj) (hb:base<=g) (hg:g<w.heap.size) (hbs:base<=w.heap.size):RowKit.Below base w (sortWorldK enc k w g 0 n d os):=by
 unfold sortWorldK;refine⟨rfl,rfl,rfl,?_,fun k hk=>?_⟩
 ·simp [grow,putRowK,putRow,mapBlock,Sort.ahead]
 ·simp only[grow,putRowK,putRow,mapBlock,Sort.ahead];rw[Array.getElem?_append_left (by simp;omega),Array.getElem?_modify,if_neg (by omega)]
theorem zQz {α:Type} (f:α->List (List UInt8)):SWO (ltOf fun x y=>cmpL (f x) (f y)):=by
 constructor
 ·intro x;show decide (cmpL (f x) (f x)<0)=false;rw[zCl];rfl
 ·intro x y z h1 h2;unfold ltOf at *;simp only[decide_eq_true_eq] at *;exact zDi h1 (by omega)
 ·intro x y z h1 h2;unfold ltOf at *;simp only[decide_eq_false_iff_not] at *;intro h3;have e1:=zCn (f x) (f y);have e2:=zCn (f y) (f z);have e3:=zCn (f x) (f z);have:=zIc (f z) (f y) (f x) (by omega) (by omega);omega
structure SortPost (N:List EN) (base g:Nat) (w:World) (e:Ending) (w':World):Prop where
 out:∃M xs,M.Perm N/\(M.Pairwise fun a b=>cmpL (pathV a.1) (pathV b.1)<=0)/\e=.returned (.tuple #[])/\HasP w' (fun b=>b<w'.heap.size) 3 (some ⟨g,0,none⟩) N.length xs/\NDsP w' (fun b=>b<w'.heap.size/\b≠g) xs M/\RowKit.Below base w w'
theorem zRc (w:World) (base g cap:Nat) (N:List EN) (xs:List Value) (h:w.ownsRow base 64 3 (.slice (some ⟨g,0,none⟩) N.length cap) N.length xs) (hN:NDsP w (fun b=>b<w.heap.size/\b≠g) xs N) (hne:N≠[]) (hn:N.length<=1000000) (hpl:∀e∈N,(pathV e.1).length<=1000000) (hb:base<=w.heap.size) (hg:g<w.heap.size) (hbg:base<=g):
  Calls Tryz.prog 28 #[.slice (some ⟨g,0,none⟩) N.length cap,.func (.func 29) #[] #[]] w (SortPost N base g w):=by
 obtain⟨n,hnn⟩:∃n,N.length=n:=⟨_,rfl⟩;rw[hnn] at h hn ⊢;have hpos:0<n:=by rw[<-hnn];exact List.length_pos_iff.2 hne
 have eg:∀args w,(callFunc 29 args).run Tryz.prog w=.ok (.enter 29 args) w:=enters_of Tryz.func29 (by kernel_rfl) rfl;have hH:=zOv h;have hnode:∀i:Nat,∃e A c Q d,(if i<n then i else 0)<n/\N[if i<n then i else 0]?=some e/\cells3 xs n i=[.string (txt e.1),.slice A e.2.length c,.slice Q (pathV e.1).length d]/\HasP w (fun b=>b<w.heap.size/\b≠g) 1 Q (pathV e.1).length (strs (pathV e.1)):=fun i=>by
  have hi:(if i<n then i else 0)<n:=by split<;>omega
  obtain⟨e,he⟩:∃e,N[if i<n then i else 0]?=some e:=⟨_,List.getElem?_eq_getElem (by rw[hnn];exact hi)⟩;obtain⟨A,c,ys,Q,d,h1,h2,h3,_,_,_,_,_,_,h6⟩:=hN.each _ e he;refine⟨e,A,c,Q,d,hi,he,?_,h6⟩;unfold cells3;rw[List.getD_eq_getElem?_getD,List.getD_eq_getElem?_getD,List.getD_eq_getElem?_getD,h1,h2,h3];rfl
 let f:Nat->List (List UInt8):=fun i=>pathV (N.getD (if i<n then i else 0) ([],[])).1
 have hcmp:CmpLays Tryz.prog 29 #[] (cells3 xs n) 3 (fun x y=>cmpL (f x) (f y)) g 0 (Array.range n).size w:=by
  intro m os dk hdk x y;obtain⟨e1,A1,c1,Q1,d1,_,he1,hc1,hq1⟩:=hnode x;obtain⟨e2,A2,c2,Q2,d2,_,he2,hc2,hq2⟩:=hnode y;have hsz:=size_sortWorldK_c (cells3 xs n) 3 w g 0 m dk os;have mv:∀{Q:Option Addr} {T:List (List UInt8)},HasP w (fun b=>b<w.heap.size/\b≠g) 1 Q T.length (strs T)->Has (sortWorldK (cells3 xs n) 3 w g 0 m dk os) (sortWorldK (cells3 xs n) 3 w g 0 m dk os).heap.size 1 Q T.length (strs T):=fun hq=>
   (hq.move (P':=fun b=>b<(sortWorldK (cells3 xs n) 3 w g 0 m dk os).heap.size) (fun p hp=>World.cell?_of_block (zG4 _ w g 3 m dk os _ hp.1 hp.2)) fun b hb=>Nat.lt_of_lt_of_le hb.1 hsz).has fun b hb=>hb
  have hf1:f x=pathV e1.1:=by show pathV (N.getD _ _).1=_;rw[List.getD_eq_getElem?_getD,he1];rfl
  have hf2:f y=pathV e2.1:=by show pathV (N.getD _ _).1=_;rw[List.getD_eq_getElem?_getD,he2];rfl
  simp only;rw[hc1,hc2,hf1,hf2];exact zJh _ _ _ _ _ _ _ _ _ Q1 Q2 (pathV e1.1) (pathV e2.1) _ _ _ _ (mv hq1) (mv hq2) (hpl e1 (List.mem_of_getElem? he1))
 have hcon:=AnyQ.slices_SortFunc Tryz.sortNode 3 (fun w=>by kernel_rfl) (fun w=>by kernel_rfl) (cells3 xs n) (fun _=>rfl) (fun x v hv=>by
  obtain⟨e,A,c,Q,d,_,_,hc,_⟩:=hnode x
  rw[hc] at hv
  simp only[List.mem_cons,List.not_mem_nil,or_false] at hv
  rcases hv with rfl | rfl | rfl<;>rfl) (fun x y=>cmpL (f x) (f y)) (zQz f) 29 #[] g 0 cap (Array.range n) w eg hcmp hH hg (by simp;omega)
 rw[Array.size_range] at hcon;refine Calls.mono hcon ?_;rintro e w' ⟨rfl,d',m,os,hperm,hsorted,rfl⟩;have hsz:d'.size=n:=by rw[hperm.1,Array.size_range]
 have h1:=holdsK_sortWorldK_c (cells3 xs n) 3 w g 0 (Array.range n) d' m os hH hg (by rw[hsz,Array.size_range]);have hp:d'.toList.Perm (List.range n):=by
  obtain⟨_,_,h3⟩:=hperm;have e1:d'.extract 0 n=d':=by rw[<-hsz];simp
  have e2:(Array.range n).extract 0 n=Array.range n:=by
   have:(Array.range n).size=n:=Array.size_range
   conv=>lhs;arg 3;rw[<-this]
   simp
  rw[e1,e2] at h3;simpa using h3
 have hlt:∀i∈d'.toList,i<n:=fun i hi=>List.mem_range.1 (hp.subset hi)
 have hB:=zF8 (cells3 xs n) 3 w g m d' os hbg hg hb;have hws:w.heap.size<=(sortWorldK (cells3 xs n) 3 w g 0 m d' os).heap.size:=size_sortWorldK_c (cells3 xs n) 3 w g 0 m d' os;have hmapN:(List.range n).map (fun i=>N.getD i ([],[]))=N:=by
  refine List.ext_getElem? fun i=>?_
  rw[List.getElem?_map];by_cases hi:i<n
  ·rw [List.getElem?_range hi,Option.map_some,List.getD_eq_getElem?_getD,List.getElem?_eq_getElem (by omega)];rfl
  ·rw [List.getElem?_eq_none (by simpa using hi),List.getElem?_eq_none (by omega)];rfl
 have hfi:∀i,i<n->f i=pathV (N.getD i ([],[])).1:=fun i hi=>by show pathV (N.getD (if i<n then i else 0) ([],[])).1=_;rw[if_pos hi]
 refine⟨⟨d'.toList.map fun i=>N.getD i ([],[]),(flatK (cells3 xs n) 3 d').toList,?_,?_,rfl,?_,?_,hB⟩⟩
 ·have:=hp.map fun i=>N.getD i ([],[])
  rwa [hmapN] at this
 ·rw [List.pairwise_map,List.pairwise_iff_getElem];intro i j hi hj hij;simp only[Array.length_toList] at hi hj;have hq:=hsorted i j (Nat.zero_le _) hij (by rw[<-hsz];exact hj);have q1:d'[i]! =d'[i]:=by simp[hi]
  have q2:d'[j]! =d'[j]:=by simp[hj]
  rw[q1,q2] at hq;have hq:¬cmpL (f d'[j]) (f d'[i])<0:=by simpa[ltOf] using hq
  rw[hfi _ (hlt _ (by simp)),hfi _ (hlt _ (by simp))] at hq;have hng:=zCn (pathV (N.getD d'[i] ([],[])).1) (pathV (N.getD d'[j] ([],[])).1);simp only[Array.getElem_toList];omega
 ·refine ⟨by first | (rw[Array.length_toList,size_flatK,hsz,hnn];done) | (simp[size_flatK,hsz,hnn];done),.inr ⟨_,rfl,Nat.lt_of_lt_of_le hg hws,fun j u hu=>?_⟩⟩;have hj:j<n*3:=by
   have:=(List.getElem?_eq_some_iff.1 hu).1;simpa[hsz] using this
  have h2:=(h1 j (by rw[size_flatK,hsz];exact hj)).1;rw[Nat.zero_add] at h2;have e:(⟨g,0,none⟩:Addr).add j=⟨g,j,none⟩:=by unfold Addr.add;split<;>simp_all
  rw[e,h2];have hjs:j<(flatK (cells3 xs n) 3 d').size:=by rw[size_flatK,hsz];exact hj
  have:(flatK (cells3 xs n) 3 d').toList[j]?=some ((flatK (cells3 xs n) 3 d')[j]!):=by rw[Array.getElem?_toList,Array.getElem?_eq_getElem hjs,getElem!_pos _ j hjs]
  rw[this] at hu;exact hu
 ·refine ⟨by simp[hsz],fun i e he=>?_⟩;have hil:i<d'.size:=by
   have:=(List.getElem?_eq_some_iff.1 he).1;simpa using this
  obtain⟨ix,hix⟩:∃ix,d'[i]=ix:=⟨_,rfl⟩;have hixn:ix<n:=by rw[<-hix];exact hlt _ (by simp)
  have hel:N[ix]?=some e:=by rw[List.getElem?_map,Array.getElem?_toList,Array.getElem?_eq_getElem hil,Option.map_some,hix,List.getD_eq_getElem?_getD,List.getElem?_eq_getElem (by omega)] at he;rw[List.getElem?_eq_getElem (by omega)];exact he
  obtain⟨A,c,ys,Q,dq,h2,h3,h4,k1,k2,k3,k4,h5,h6,h7⟩:=hN.each ix e hel;have hcs:cells3 xs n ix=[.string (txt e.1),.slice A e.2.length c,.slice Q (pathV e.1).length dq]:=by unfold cells3;rw[if_pos hixn,List.getD_eq_getElem?_getD,List.getD_eq_getElem?_getD,List.getD_eq_getElem?_getD,h2,h3,h4];rfl
  have hat:∀r,r<3->(flatK (cells3 xs n) 3 d').toList[i*3+r]?=some ((cells3 xs n ix)[r]!):=fun r hr=>by
   have hjs:i*3+r<(flatK (cells3 xs n) 3 d').size:=by rw[size_flatK];omega
   rw[Array.getElem?_toList,Array.getElem?_eq_getElem hjs];have h8:=get_flatK (cells3 xs n) 3 d' (i*3+r) (by rw[size_flatK] at hjs;exact hjs);rw[show (i*3+r)/3=i by omega,show (i*3+r) % 3=r by omega] at h8;have h9:d'[i]! =ix:=by rw[<-hix];simp[hil]
   rw[h9] at h8;rw[<-h8,getElem!_pos (flatK (cells3 xs n) 3 d') (i*3+r) hjs]
  have mvc:∀p:Addr,(p.block<w.heap.size/\p.block≠g)->(sortWorldK (cells3 xs n) 3 w g 0 m d' os).cell? p=w.cell? p:=fun p hp=>World.cell?_of_block (zG4 _ w g 3 m d' os _ hp.1 hp.2)
  have mvp:∀b,(b<w.heap.size/\b≠g)->b<(sortWorldK (cells3 xs n) 3 w g 0 m d' os).heap.size/\b≠g:=fun b hb=>⟨Nat.lt_of_lt_of_le hb.1 hws,hb.2⟩
  refine⟨A,c,ys,Q,dq,?_,?_,?_,k1,k2,k3,k4,h5.move mvc mvp,h6.move mvc mvp,h7.move mvc mvp⟩
  ·rw [show i*3=i*3+0 by omega,hat 0 (by omega),hcs];rfl
  ·rw [hat 1 (by omega),hcs];rfl
  ·rw [hat 2 (by omega),hcs];rfl
end Go.Proofs.YtdkekamkmlpnhaaGreatDoor
namespace Go.Proofs.YtdkekamkmlpnhaaGreatDoor
open Go Go.RowKit
end Go.Proofs.YtdkekamkmlpnhaaGreatDoor
