/- Several texts in one: BerBackMath, BerTakes, BerBack, BerListMath, BerList, BerBool, LMath. By an AI agent. -/
import Derived.Test.YtpkedjohgmnhhaaGreatM03
import Derived.Test.YtpkedjohgmnhhaaGreatRows
import Derived.Test.YtpkedjohgmnhhaaGreatWords
import Derived.Test.YtpkedjohgmnhhaaGreatHMath
set_option maxRecDepth 100000
set_option maxHeartbeats 3200000
namespace Go.Proofs.YtpkedjohgmnhhaaGreat.Ber
open Go.RowKit
theorem be_succ (k N:Nat):be (k+1) N=be k (N/256)++[UInt8.ofNat N]:=by
 unfold be
 rw[List.range_succ,List.map_append]
 congr 1
 ·apply List.map_congr_left
  intro i hi
  have hik:i<k:=List.mem_range.1 hi
  rw[show 8*(k+1-1-i)=8+8*(k-1-i) by omega,Nat.pow_add,←Nat.div_div_eq_div_mul]
 ·simp
theorem un_be (k:Nat):∀N,N<256 ^ k→un (be k N)=N:=by
 induction k with
 | zero=>intro N h;simp at h;subst h;rfl
 | succ k ih=>
  intro N h
  rw[be_succ]
  have h1:un (be k (N/256)++[UInt8.ofNat N])=un (be k (N/256))*256+(UInt8.ofNat N).toNat:=by simp[un,List.foldl_append]
  rw[Nat.pow_succ] at h
  rw[h1,ih (N/256) (by omega),UInt8.toNat_ofNat']
  omega
theorem wide_fits (n:Nat) (h:n<4294967296):n<256 ^ wide n:=by
 unfold wide
 repeat' split
 all_goals simp only[Nat.reducePow]<;>omega
theorem cutLen_lenOf (n:Nat) (h:n≤2147483647) (x:List UInt8):cutLen (lenOf (n:Int)++x)=(n,(lenOf (n:Int)).length,0):=by
 unfold lenOf
 rw[if_neg (by omega)]
 by_cases h1:(n:Int)<128
 ·rw [if_pos h1]
  have e:(UInt8.ofNat (n:Int).toNat).toNat=n:=by rw[UInt8.toNat_ofNat',Int.toNat_natCast,Nat.mod_eq_of_lt (by omega)]
  rw[List.singleton_append,cutLen,if_pos (by omega),e]
  rfl
 ·rw [if_neg h1,Int.toNat_natCast]
  have hw:=wide_le n
  have e:(UInt8.ofNat (128+wide n)).toNat=128+wide n:=by rw[UInt8.toNat_ofNat',Nat.mod_eq_of_lt (by omega)]
  rw[List.cons_append,cutLen,e,if_neg (by omega),if_neg (by omega),show 128+wide n-128=wide n by omega]
  rw[if_neg (by rw[List.length_append,be_length];omega)]
  have ht:(be (wide n) n++x).take (wide n)=be (wide n) n:=by
   rw[List.take_append_of_le_length (by rw[be_length];omega),List.take_of_length_le (by rw[be_length];omega)]
  rw[ht,un_be _ _ (wide_fits n (by omega)),List.length_cons,be_length,Nat.add_comm]
theorem takeOf_field (tag:UInt8) (l m:List UInt8) (hl:l.length≤2147483647):
  takeOf (fieldOf tag l++m)=if tag.toNat % 32=31 then (0,[],[],2) else (tag.toNat,l,m,0):=by
 have hc:=cutLen_lenOf l.length hl (l++m)
 have e:fieldOf tag l++m=tag::(lenOf (l.length:Int)++(l++m)):=by simp[fieldOf]
 rw[e,takeOf]
 by_cases h1:tag.toNat % 32=31
 ·rw [if_pos h1,if_pos h1]
 ·have er:cutRest (lenOf (l.length:Int)++(l++m))=l++m:=by
   rw[cutRest,hc,if_pos rfl]
   exact List.drop_left
  rw[if_neg h1,if_neg h1,hc,if_neg (by simp),er,if_neg (by rw[List.length_append];simp only;omega)]
  simp only[List.take_left,List.drop_left]
theorem cutLen_part (n:Nat) (h:n≤2147483647) (j:Nat) (hj:j<(lenOf (n:Int)).length):(cutLen ((lenOf (n:Int)).take j)).2.2=5:=by
 unfold lenOf at hj ⊢
 rw[if_neg (by omega)] at hj ⊢
 by_cases h1:(n:Int)<128
 ·rw [if_pos h1] at hj ⊢
  simp only[List.length_singleton] at hj
  obtain rfl:j=0:=by omega
  rfl
 ·rw [if_neg h1,Int.toNat_natCast] at hj ⊢
  have hw:=wide_le n
  have e:(UInt8.ofNat (128+wide n)).toNat=128+wide n:=by rw[UInt8.toNat_ofNat',Nat.mod_eq_of_lt (by omega)]
  cases j with
  | zero=>rfl
  | succ j=>
   rw[List.length_cons,be_length] at hj
   rw[List.take_succ_cons,cutLen,e,if_neg (by omega),if_neg (by omega),if_pos (by rw[List.length_take,be_length];omega)]
theorem takeOf_part (tag:UInt8) (l:List UInt8) (hl:l.length≤2147483647) (ht:tag.toNat % 32≠31) (i:Nat) (hi:i<(fieldOf tag l).length):takeOf ((fieldOf tag l).take i)=(0,[],[],5):=by
 cases i with
 | zero=>rfl
 | succ j=>
  rw[fieldOf,List.take_succ_cons,takeOf,if_neg ht]
  rw[fieldOf_length] at hi
  by_cases h:j<(lenOf (l.length:Int)).length
  ·rw [List.take_append_of_le_length (by omega),if_pos (by rw[cutLen_part l.length hl j h];simp),cutLen_part l.length hl j h]
  ·have e:(lenOf (l.length:Int)++l).take j=lenOf (l.length:Int)++l.take (j-(lenOf (l.length:Int)).length):=by
    rw[List.take_append,List.take_of_length_le (by omega)]
   have hc:=cutLen_lenOf l.length hl (l.take (j-(lenOf (l.length:Int)).length))
   have er:cutRest (lenOf (l.length:Int)++l.take (j-(lenOf (l.length:Int)).length))=l.take (j-(lenOf (l.length:Int)).length):=by
    rw[cutRest,hc,if_pos rfl]
    exact List.drop_left
   rw[e,hc,if_neg (by simp),er,if_pos (by rw[List.length_take];simp only;omega)]
end Go.Proofs.YtpkedjohgmnhhaaGreat.Ber
namespace Go.Proofs.YtpkedjohgmnhhaaGreat.Ber
open Go.RowKit
def TK (f:Nat) (w:World) (A:Option Addr) (n c:Nat) (k:Int) (con rest:List UInt8) (err:Int):Prop:=
 Calls Tryz.prog f #[.slice A n c] w fun e w'=>∃A1 c1 A2 c2,e=.returned (.tuple #[.int .u8 k,.slice A1 con.length c1,.slice A2 rest.length c2,.int .i64 err])∧
  Has w' w'.heap.size 1 A1 con.length (bys con)∧Has w' w'.heap.size 1 A2 rest.length (bys rest)∧Below w.heap.size w w'
theorem TK.of {f:Nat} {w:World} {A:Option Addr} {n c:Nat} {k:Int} {con rest:List UInt8} {err:Int}
  (h:Calls Tryz.prog f #[.slice A n c] w fun e w'=>∃v1 v2,e=.returned (.tuple #[.int .u8 k,v1,v2,.int .i64 err])∧
   w'.ownsRow w.heap.size 5 1 v1 con.length (bys con)∧w'.ownsRow w.heap.size 5 1 v2 rest.length (bys rest)∧Below w.heap.size w w'):TK f w A n c k con rest err:=by
 unfold TK
 refine h.mono ?_
 rintro e w' ⟨v1,v2,rfl,h1,h2,hb⟩
 obtain⟨A1,c1,rfl,_,hH1⟩:=own_form h1
 obtain⟨A2,c2,rfl,_,hH2⟩:=own_form h2
 exact⟨A1,c1,A2,c2,rfl,hH1,hH2,hb⟩
theorem known_has (w:World):Has (w.alloc (.cells #[.int .u8 48,.int .u8 0] 5)) (w.heap.size+1) 1 (some ⟨w.heap.size,0,none⟩) 2 (bys [48,0]):=
 (Has.own (own_lit w #[.int .u8 48,.int .u8 0] 5 2 (by unfold maxLen;omega) rfl)).upto (by simp)
end Go.Proofs.YtpkedjohgmnhhaaGreat.Ber
namespace Go.Proofs.YtpkedjohgmnhhaaGreat.Ber
open Go.RowKit
theorem own_form' {w:World} {base:Nat} {e:TypeId} {v:Value} {n:Nat} {xs:List Value} (h:w.ownsRow base e 1 v n xs):∃A c,v=.slice A n c∧n≤c∧c≤maxLen∧Has w w.heap.size 1 A n xs:=by
 rcases h.2 with⟨rfl,rfl⟩ | ⟨g,cap,cur,rfl,_,_,hnc,hm,_⟩
 ·exact ⟨none,0,rfl,Nat.le_refl _,Nat.zero_le _,Has.own h⟩
 ·exact ⟨_,cap,rfl,hnc,hm,Has.own h⟩
end Go.Proofs.YtpkedjohgmnhhaaGreat.Ber
namespace Go.Proofs.YtpkedjohgmnhhaaGreat.Ber
open Go.RowKit
def listGo:Nat→List UInt8→List (List UInt8)→List UInt8→List UInt8 × List (List UInt8) × Int
 | 0,T,L,_=>(T,L,0)
 | f+1,T,L,rem=>if rem=[] then (T,L,0) else if (takeOf rem).2.2.2≠0 then ([],[],(takeOf rem).2.2.2) else
   listGo f (T++[UInt8.ofNat (takeOf rem).1]) (L++[(takeOf rem).2.1]) (takeOf rem).2.2.1
theorem listGo_nil (f:Nat) (T:List UInt8) (L:List (List UInt8)):listGo f T L []=(T,L,0):=by
 cases f with
 | zero=>rfl
 | succ f=>rw[listGo,if_pos rfl]
theorem takeOf_less (l:List UInt8) (h:l≠[]):(takeOf l).2.2.1.length<l.length∧(takeOf l).1<256:=by
 cases l with
 | nil=>exact absurd rfl h
 | cons t r=>
  have:=cutRest_le r
  have ht:=t.toNat_lt
  rw[takeOf,List.length_cons]
  split
  ·simp
  ·split
   ·simp
   ·split
    ·simp
    ·simp only[List.length_drop]
     omega
def Off (v:Value) (A:Option Addr) (ys:List UInt8):Prop:=ys=[]∨∀ad,A=some ad→some ad.block≠v.ownBlock
theorem Off.nil (A:Option Addr) (ys:List UInt8):Off (.slice none 0 0) A ys:=.inr fun ad _=>by simp[Value.ownBlock]
theorem Off.low {w w':World} {B base:Nat} {e:TypeId} {v:Value} {n m:Nat} {us:List Value} {A:Option Addr} {l:List UInt8} (h:Has w B 1 A m (bys l)) (ho:w'.ownsRow base e 1 v n us) (hB:B≤base):Off v A l:=by
 rcases h.2 with h0 | ⟨ad,e1,hb,_⟩
 ·exact .inl (by simpa[bys] using h0)
 ·refine .inr fun ad' e2=>?_
  rw[e1] at e2
  injection e2 with e2
  subst e2
  intro e3
  have:=(ho.lt _ e3.symm).1
  omega
theorem Off.new {w w':World} {B base:Nat} {e e':TypeId} {v:Value} {n m c:Nat} {us:List Value} {A:Option Addr} {l:List UInt8} (h:w'.ownsRow B e' 1 (.slice A m c) m (bys l)) (ho:w.ownsRow base e 1 v n us) (hB:w.heap.size≤B):Off v A l:=by
 rcases Nat.eq_zero_or_pos m with h0 | h0
 ·left
  have:=h.1
  rw[h0] at this
  simpa[bys] using this
 ·refine .inr fun ad e1=>?_
  subst e1
  intro e2
  have h1:=(h.lt ad.block rfl).1
  have h2:=(ho.lt _ e2.symm).2
  omega
def New (base:Nat) (A:Option Addr) (l:List UInt8) (c:Nat):Prop:=(l=[]∨∀ad,A=some ad→base≤ad.block)∧l.length≤c∧c≤maxLen
structure Kept (w:World) (base:Nat) (tv cv:Value) (T:List UInt8) (xs:List Value) (L:List (List UInt8)):Prop where
 tags:w.ownsRow base 5 1 tv T.length (bys T)
 outer:w.ownsRow base 33 1 cv L.length xs
 apart:tv.ownBlock=none∨tv.ownBlock≠cv.ownBlock
 els:∀(i:Nat) (l:List UInt8),L[i]?=some l→∃A c,xs[i]?=some (Value.slice A l.length c)∧Has w w.heap.size 1 A l.length (bys l)∧Off tv A l∧Off cv A l∧New base A l c
theorem Has.grown {w w':World} {B n:Nat} {A:Option Addr} {l:List UInt8} {v:Value} (h:Has w B 1 A n (bys l)) (hB:B≤w.heap.size) (hg:w.grownBy w' v.ownBlock) (ho:Off v A l):Has w' B 1 A n (bys l):=by
 refine⟨h.1,?_⟩
 rcases ho with rfl | ho
 ·exact .inl rfl
 ·refine h.2.imp id ?_
  rintro ⟨ad,e,hb,hc⟩
  refine⟨ad,e,hb,fun j u hu=>?_⟩
  rw[World.cell?_of_block (w:=w) (hg.block _ (by rw[block_add];omega) (by rw[block_add];exact ho ad e))]
  exact hc j u hu
theorem Off.next {w:World} {A:Option Addr} {n:Nat} {l:List UInt8} {v v':Value} (h:Off v A l) (hH:Has w w.heap.size 1 A n (bys l)) (ht:v'.ownBlock=v.ownBlock∨v'.ownBlock=some w.heap.size):Off v' A l:=by
 rcases h with h | h
 ·exact .inl h
 ·rcases hH.2 with h0 | ⟨ad',e',hb,_⟩
  ·exact .inl (by simpa[bys] using h0)
  ·refine .inr fun ad e=>?_
   rcases ht with e1 | e1
   ·rw [e1]
    exact h ad e
   ·rw [e1]
    rw[e] at e'
    injection e' with e'
    subst e'
    intro e2
    injection e2 with e2
    omega
section
variable {w w':World} {base:Nat} {tv cv tv' cv':Value} {T:List UInt8} {xs:List Value} {L:List (List UInt8)}
theorem Kept.start (w:World) (base:Nat):Kept w base (.slice none 0 0) (.slice none 0 0) [] [] []:=
 ⟨World.ownsRow_nil _ _ _ _,World.ownsRow_nil _ _ _ _,.inl rfl,fun i l h=>by simp at h⟩
theorem Kept.below (h:Kept w base tv cv T xs L) (hb:Below w.heap.size w w'):Kept w' base tv cv T xs L:=
 ⟨own_below h.tags hb,own_below h.outer hb,h.apart,fun i l hl=>by
  obtain⟨A,c,e,hH,o1,o2,o3⟩:=h.els i l hl
  exact⟨A,c,e,(hH.below hb).upto hb.size,o1,o2,o3⟩⟩
theorem Kept.tag (h:Kept w base tv cv T xs L) (t:UInt8) (ho:w'.ownsRow base 5 1 tv' (T.length+1) (bys (T++[t]))) (hg:w.grownBy w' tv.ownBlock) (ht:tv'.ownBlock=tv.ownBlock∨tv'.ownBlock=some w.heap.size):
  Kept w' base tv' cv (T++[t]) xs L:=by
 refine⟨by simpa using ho,h.outer.kept hg ?_,?_,fun i l hl=>?_⟩
 ·rcases h.apart with e | e
  ·cases hc:cv.ownBlock with
   | none=>exact .inl rfl
   | some g=>exact .inr (by rw[e];simp)
  ·exact .inr fun e2=>e e2.symm
 ·rcases ht with e | e
  ·rw [e]
   exact h.apart
  ·right
   rw[e]
   intro e2
   have:=(h.outer.lt _ e2.symm).2
   omega
 ·obtain ⟨A,c,e,hH,o1,o2,o3⟩:=h.els i l hl
  exact⟨A,c,e,(Has.grown hH (Nat.le_refl _) hg o1).upto hg.size,o1.next hH ht,o2,o3⟩
theorem Kept.con (h:Kept w base tv cv T xs L) (A:Option Addr) (c:Nat) (l:List UInt8) (hH:Has w w.heap.size 1 A l.length (bys l)) (o1:Off tv A l) (o2:Off cv A l) (o3:New base A l c)
  (ho:w'.ownsRow base 33 1 cv' (L.length+1) (xs++[Value.slice A l.length c])) (hg:w.grownBy w' cv.ownBlock) (ht:cv'.ownBlock=cv.ownBlock∨cv'.ownBlock=some w.heap.size):
  Kept w' base tv cv' T (xs++[Value.slice A l.length c]) (L++[l]):=by
 have hx:xs.length=L.length:=by simpa using h.outer.1
 refine⟨h.tags.kept hg h.apart,by simpa using ho,?_,fun i m hm=>?_⟩
 ·rcases h.apart with e | e
  ·exact .inl e
  ·rcases ht with e1 | e1
   ·rw [e1]
    exact .inr e
   ·right
    rw[e1]
    intro e2
    have:=(h.tags.lt _ e2).2
    omega
 ·rcases Nat.lt_or_ge i L.length with hi | hi
  ·rw [List.getElem?_append_left hi] at hm
   obtain⟨A',c',e,hH',q1,q2,q3⟩:=h.els i m hm
   exact⟨A',c',by rw[List.getElem?_append_left (by omega)];exact e,(Has.grown hH' (Nat.le_refl _) hg q2).upto hg.size,q1,q2.next hH' ht,q3⟩
  ·rw [List.getElem?_append_right hi] at hm
   have hi0:i-L.length=0:=by
    rcases Nat.eq_zero_or_pos (i-L.length) with h0 | h0
    ·exact h0
    ·rw [List.getElem?_eq_none (by simp;omega)] at hm
     cases hm
   rw[hi0] at hm
   simp only[List.getElem?_cons_zero,Option.some.injEq] at hm
   subst hm
   refine⟨A,c,?_,(Has.grown hH (Nat.le_refl _) hg o2).upto hg.size,o1,o2.next hH ht,o3⟩
   rw[List.getElem?_append_right (by omega),show i-xs.length=0 by omega]
   rfl
end
theorem info22:(Tryz.prog.info? 33).map (fun i=>(i.zero,i.size,i.bytes))=some (some (.slice none 0 0),1,24):=by kernel_rfl
theorem app8g {ops:Array Oper} {rest:List Oper} {o:Oper} {a:Act} {Q:Exit→Act→World→Prop} (W:World) (hgd:o.guard=none) (s x:Operand)
  (ho:o.op=.call { callee:=.builtin .append,args:=#[s,x],argTypes:=#[33,33] })
  (base:Nat) (v:Value) (n:Nat) (xs:List UInt8) (hs:a.eval s=v) (hown:W.ownsRow base 5 1 v n (bys xs))
  (B:Nat) (A:Option Addr) (m c:Nat) (l:List UInt8) (hx:a.eval x=.slice A m c) (hr:Has W B 1 A m (bys l))
  (hb:n+m≤140737488355328) (hbase:base≤W.heap.size)
  (h:∀v' w',w'.ownsRow base 5 1 v' (n+m) (bys (xs++l))→(v'.ownBlock=v.ownBlock∨v'.ownBlock=some W.heap.size)→W.grownBy w' v.ownBlock→wpList Tryz.prog ops Q rest (a.put o.dst v') w'):
  wpList Tryz.prog ops Q (o::rest) a W:=by
 obtain⟨i0,hi,hz0,hz1,hz2⟩:=info_parts info8
 refine wpList_app W hgd s x 33 ho base 5 i0 _ 1 1 Tryz.underlying33 hi hz0 hz1 hz2 rfl (by omega) v n (bys xs) hs hown B A m c (bys l) hx hr (bys_one _) (by unfold maxLen;omega) (by omega) hbase ?_
 intro v' w' h1 h2 h3
 rw[←bys_append] at h1
 exact h v' w' h1 h3 h2
theorem app22 {ops:Array Oper} {rest:List Oper} {o:Oper} {a:Act} {Q:Exit→Act→World→Prop} (W:World) (hgd:o.guard=none) (s x:Operand)
  (ho:o.op=.call { callee:=.builtin .append,args:=#[s,x],argTypes:=#[83,83] })
  (base:Nat) (v:Value) (n:Nat) (xs:List Value) (hs:a.eval s=v) (hown:W.ownsRow base 33 1 v n xs)
  (B:Nat) (A:Option Addr) (m c:Nat) (l:List Value) (hx:a.eval x=.slice A m c) (hr:Has W B 1 A m l) (h1:∀u∈l,u.oneCell'=true)
  (hb:n+m≤4000000000000) (hbase:base≤W.heap.size)
  (h:∀v' w',w'.ownsRow base 33 1 v' (n+m) (xs++l)→(v'.ownBlock=v.ownBlock∨v'.ownBlock=some W.heap.size)→W.grownBy w' v.ownBlock→wpList Tryz.prog ops Q rest (a.put o.dst v') w'):
  wpList Tryz.prog ops Q (o::rest) a W:=by
 obtain⟨i0,hi,hz0,hz1,hz2⟩:=info_parts info22
 refine wpList_app W hgd s x 83 ho base 33 i0 _ 1 24 Tryz.underlying83 hi hz0 hz1 hz2 rfl (by omega) v n xs hs hown B A m c l hx hr h1 (by unfold maxLen;omega) (by omega) hbase ?_
 intro v' w' h1 h2 h3
 exact h v' w' h1 h3 h2
end Go.Proofs.YtpkedjohgmnhhaaGreat.Ber
namespace Go.Proofs.YtpkedjohgmnhhaaGreat.Ber
open Go.RowKit
def LSp (w:World) (R:List UInt8 × List (List UInt8) × Int) (e:Ending) (w':World):Prop:=
 ∃tv cv xs,e=.returned (.tuple #[tv,cv,.int .i64 R.2.2])∧Kept w' w.heap.size tv cv R.1 xs R.2.1∧Below w.heap.size w w'
def sliceLen:Value→Nat
 | .slice _ m _=>m
 | _=>0
theorem kept_size {w:World} {base:Nat} {tv cv:Value} {T:List UInt8} {xs:List Value} {L:List (List UInt8)} (_h:Kept w base tv cv T xs L):xs.length=L.length:=by simpa using _h.outer.1
theorem list_of (w:World) (A:Option Addr) (n c:Nat) (l:List UInt8) (R:List UInt8 × List (List UInt8) × Int) (h:Has w w.heap.size 1 A l.length (bys l)) (hc:l.length≤c) (hm:c≤maxLen) (hn:l.length≤n) (hn8:n≤16777216)
  (HR:Hid (listGo n [] [] l=R)):
  Calls Tryz.prog 77 #[.slice A l.length c] w (LSp w R):=by
 have hk0:=Kept.start w w.heap.size
 have hb0:Below w.heap.size w w:=Below.refl _ _
 go_enter Tryz.func77,Tryz.ntmps77
 go_wp2
 go_loopw [5,6,7] (fun tv cv rv wr=>∃(f:Nat) (T rem:List UInt8) (xs:List Value) (L:List (List UInt8)) (Ar:Option Addr) (cr:Nat),
   rv=.slice Ar rem.length cr∧rem.length≤cr∧cr≤maxLen∧rem.length≤f∧T.length+rem.length≤n∧L.length+rem.length≤n∧Hid (listGo f T L rem=R)∧Has wr w.heap.size 1 Ar rem.length (bys rem)∧Kept wr w.heap.size tv cv T xs L∧Below w.heap.size w wr)
  (fun _ _ rv _=>sliceLen rv)
 case atStart=>exact⟨n,[],l,[],[],A,c,rfl,hc,hm,hn,by simpa using hn,by simpa using hn,HR,h,hk0,hb0⟩
 case round=>
  obtain⟨f,T,rem,xs,L,Ar,cr,rfl,hcr,hmr,hf,hT,hL,HG,hH,hK,hbr⟩:=hrel
  clear hk0 hb0 HR h hc hm hn
  by_cases hr:rem=[]
  ·subst hr
   have hg:=HG.out
   rw[listGo_nil] at hg
   subst hg
   clear HG
   go_wp2
   go_ret3
   exact⟨_,_,xs,rfl,hK,hbr⟩
  ·have hless:=takeOf_less rem hr
   have hle:=takeOf_le rem
   have hpos:0<rem.length:=List.length_pos_iff.2 hr
   obtain⟨f,rfl⟩:∃f',f=f'+1:=⟨f-1,by omega⟩
   have hg:=HG.out
   rw[listGo,if_neg hr] at hg
   have hcut:=cut_any wr w.heap.size Ar rem.length cr rem hH hbr.size hcr hmr
   obtain⟨k,con,rest,err,ht⟩:∃k con rest err,takeOf rem=(k,con,rest,err):=⟨_,_,_,_,rfl⟩
   rw[ht] at hcut hg hless hle
   simp only at hcut hg hless hle
   have HCUT:=hide hcut
   have HGG:=hide hg
   clear hcut hg HG ht hr
   by_cases he:err=0
   ·subst he
    have hk8:=c8_lit k hless.2
    have HK8:=hide hk8
    clear hk8
    go_wp2_with fail
    refine HCUT.out.mono ?_
    rintro e w1 ⟨A1,c1,A2,c2,rfl,q1,q2,q3,q4,q5,q6,hb1⟩
    clear HCUT
    have hbw1:Below w.heap.size w w1:=hbr.trans (hb1.mono hbr.size)
    have K1:=(hK.below hb1).below ((Below.refl w1.heap.size w1).alloc (Nat.le_refl _) (.cells #[.int .u8 (k:Int)] 5))
    have hbl:Below w.heap.size w1 (w1.alloc (.cells #[.int .u8 (k:Int)] 5)):=(Below.refl _ _).alloc hbw1.size _
    have hH1:Has (w1.alloc (.cells #[.int .u8 (k:Int)] 5)) (w1.heap.size+1) 1 (some ⟨w1.heap.size,0,none⟩) 1 (bys [UInt8.ofNat k]):=by
     have:=has_one w1 (.int .u8 (k:Int)) 5
     rw[show bys [UInt8.ofNat k]=[c8 (UInt8.ofNat k)] from rfl,HK8.out]
     exact this
    have hs1:=(hbw1.trans hbl).size
    clear hK
    go_wp2_with (at_builtin;go_must (refine app8g _ rfl (.tmp 26) (.tmp 28) rfl w.heap.size _ T.length T rfl K1.tags _ _ 1 1 [UInt8.ofNat k] rfl hH1 (by omega) hs1 ?_))
    intro tv2 w2 ho2 hat2 hg2
    have K2:=K1.tag (UInt8.ofNat k) ho2 hg2 (by simpa using hat2)
    have hb12:Below w.heap.size w1 w2:=hbl.trans (below_grown K1.tags hg2 hs1)
    have hs2:=(hbw1.trans hb12).size
    have hcl:=clone_any w2 w.heap.size A1 con.length c1 con (q1.below hb12) hs2 (by omega)
    have HCL:=hide hcl
    have q4':=q4.below hb12
    clear ho2 hat2 hg2 K1 hbl hH1 q1 q4 hcl
    go_wp2_with fail
    refine HCL.out.mono ?_
    rintro e w3 ⟨v3,rfl,ho3,hb3⟩
    obtain⟨A3,c3,rfl,hc3,hm3,hH3⟩:=own_form' ho3
    clear HCL
    have o1:Off tv2 A3 con:=Off.new ho3 K2.tags (Nat.le_refl _)
    have o2:Off _ A3 con:=Off.new ho3 K2.outer (Nat.le_refl _)
    have hba:Below w3.heap.size w3 (w3.alloc (.cells #[.slice A3 con.length c3] 33)):=(Below.refl _ _).alloc (Nat.le_refl _) _
    have o3:New w.heap.size A3 con c3:=⟨.inr fun ad e=>by
     subst e
     have:=(ho3.lt ad.block rfl).1
     omega,hc3,hm3⟩
    have K4:=(K2.below hb3).below hba
    have hH4:=has_one w3 (.slice A3 con.length c3) 33
    have hH5:=(hH3.below hba).upto hba.size
    have hb13:Below w.heap.size w1 w3:=hb12.trans (hb3.mono hs2)
    have hb14:Below w.heap.size w1 (w3.alloc (.cells #[.slice A3 con.length c3] 33)):=hb13.trans (hba.mono (Nat.le_trans hs2 hb3.size))
    have hs4:=(hbw1.trans hb14).size
    have q4'':=(q4'.below (hb3.mono hs2)).below (hba.mono (Nat.le_trans hs2 hb3.size))
    clear K2 ho3 hH3 q4' hb12 hb13
    go_wp2_with (at_builtin;go_must (refine app22 _ rfl (.tmp 30) (.tmp 33) rfl w.heap.size _ L.length xs rfl K4.outer _ _ 1 1 [.slice A3 con.length c3] rfl hH4 (by simp[Value.oneCell']) (by omega) hs4 ?_))
    intro cv5 w5 ho5 hat5 hg5
    have K5:=K4.con A3 c3 con hH5 o1 o2 o3 ho5 hg5 (by simpa using hat5)
    have hb5:Below w.heap.size _ w5:=below_grown K4.outer hg5 hs4
    have hbw5:=(hbw1.trans hb14).trans hb5
    have q:=q4''.below hb5
    clear ho5 hat5 hg5 K4 hH4 hH5 hb5 q4'' hb14 hba hb3 hb1 hbw1
    go_wp2
    go_roundw
    case rel=>exact⟨f,T++[UInt8.ofNat k],rest,xs++[.slice A3 con.length c3],L++[con],A2,c2,rfl,q5,q6,by omega,by simp;omega,by simp;omega,hide (by have:=HGG.out;rwa [if_neg (by simp)] at this),q,K5,hbw5⟩
    case measure=>simp[sliceLen];omega
   ·have hg:=HGG.out
    rw[if_pos he] at hg
    subst hg
    have heb:(err !=0)=true:=by rw[bne_iff_ne];exact he
    clear HGG he
    go_wp2_with fail
    refine HCUT.out.mono ?_
    rintro e w1 ⟨A1,c1,A2,c2,rfl,q1,q2,q3,q4,q5,q6,hb1⟩
    have hk:=Kept.start w1 w.heap.size
    have hbw1:Below w.heap.size w w1:=hbr.trans (hb1.mono hbr.size)
    clear HCUT hK
    go_wp2
    go_ret3
    exact⟨_,_,[],rfl,hk,hbw1⟩
end Go.Proofs.YtpkedjohgmnhhaaGreat.Ber
namespace Go.Proofs.YtpkedjohgmnhhaaGreat.Ber
open Go.RowKit
def toBool:List UInt8→Bool × Int
 | [b]=>((b.toNat:Int)!=0,0)
 | _=>(false,2)
theorem bool_any (b:Bool) (w:World):
  Calls Tryz.prog 148 #[.bool b] w fun e w'=>e=.returned (.slice (some ⟨w.heap.size,0,none⟩) 1 1)∧w.alloc (.cells #[c8 (if b then 255 else 0)] 5)=w':=by
 cases b<;>
 ·go_enter Tryz.func148,Tryz.ntmps148
  go_wp2
  go_ret
  exact⟨rfl,rfl⟩
theorem rbool_any (b:Bool) (w:World):
  Calls Tryz.prog 123 #[.bool b] w fun e w'=>e=.returned (.slice (some ⟨w.heap.size,0,none⟩) 1 1)∧w.alloc (.cells #[c8 (if b then 255 else 0)] 5)=w':=by
 cases b<;>
 ·go_enter Tryz.func123,Tryz.ntmps123
  go_wp2
  go_ret
  exact⟨rfl,rfl⟩
theorem tobool_any (w:World) (B:Nat) (A:Option Addr) (n c:Nat) (l:List UInt8) (h:Has w B 1 A n (bys l)) (hc:n≤c) (_hm:c≤maxLen):
  Calls Tryz.prog 162 #[.slice A n c] w fun e w'=>e=.returned (.tuple #[.bool (toBool l).1,.int .i64 (toBool l).2])∧w=w':=by
 have hn:l.length=n:=by simpa[bys] using h.1
 unfold maxLen at _hm
 by_cases h1:n=1
 ·subst h1
  obtain⟨b,rfl⟩:=List.length_eq_one_iff.1 hn
  obtain⟨g,o,rfl,_,hcell⟩:=h.lies (by simp[bys])
  have h0:=hcell 0 (c8 b) rfl
  simp only[c8,Nat.add_zero] at h0
  have hb:=b.toNat_lt
  clear h hcell
  go_enter Tryz.func162,Tryz.ntmps162
  go_wp2
  go_ret2
  exact⟨rfl,rfl⟩
 ·have ht:toBool l=(false,2):=by
   unfold toBool
   split
   ·simp at hn;omega
   ·rfl
  rw[ht]
  have h2:((n:Int)!=1)=true:=by rw[bne_iff_ne];omega
  clear h hn ht
  go_enter Tryz.func162,Tryz.ntmps162
  go_wp2
  go_ret2
  exact⟨rfl,rfl⟩
theorem rtobool_any (w:World) (B:Nat) (A:Option Addr) (n c:Nat) (l:List UInt8) (h:Has w B 1 A n (bys l)) (hc:n≤c) (_hm:c≤maxLen):
  Calls Tryz.prog 137 #[.slice A n c] w fun e w'=>e=.returned (.tuple #[.bool (toBool l).1,.int .i64 (toBool l).2])∧w=w':=by
 have hn:l.length=n:=by simpa[bys] using h.1
 unfold maxLen at _hm
 by_cases h1:n=1
 ·subst h1
  obtain⟨b,rfl⟩:=List.length_eq_one_iff.1 hn
  obtain⟨g,o,rfl,_,hcell⟩:=h.lies (by simp[bys])
  have h0:=hcell 0 (c8 b) rfl
  simp only[c8,Nat.add_zero] at h0
  have hb:=b.toNat_lt
  clear h hcell
  go_enter Tryz.func137,Tryz.ntmps137
  go_wp2
  go_ret2
  exact⟨rfl,rfl⟩
 ·have ht:toBool l=(false,2):=by
   unfold toBool
   split
   ·simp at hn;omega
   ·rfl
  rw[ht]
  have h2:((n:Int)!=1)=true:=by rw[bne_iff_ne];omega
  clear h hn ht
  go_enter Tryz.func137,Tryz.ntmps137
  go_wp2
  go_ret2
  exact⟨rfl,rfl⟩
end Go.Proofs.YtpkedjohgmnhhaaGreat.Ber
namespace Go.Proofs.YtpkedjohgmnhhaaGreat
open Go.RowKit
set_option linter.unusedVariables false
abbrev Fd:=UInt8 × List UInt8
abbrev Rdr (α:Type):=List Fd→Option (α × List Fd)
structure Ct where
 oid:List UInt8
 crit:Bool
 hasv:Bool
 value:List UInt8
abbrev Atr:=List UInt8 × List (List UInt8)
structure MT where
 id:Int
 kind:Int
 name:List UInt8:=[]
 pw:List UInt8:=[]
 ver:Int:=0
 scope:Int:=0
 deref:Int:=0
 size:Int:=0
 time:Int:=0
 tonly:Bool:=false
 filt:FT:=.mk 0 [] [] [] [] [] []
 attrs:List (List UInt8):=[]
 lst:List Atr:=[]
 chs:List (Int × Atr):=[]
 nrdn:List UInt8:=[]
 delold:Bool:=false
 hassup:Bool:=false
 sup:List UInt8:=[]
 attr:List UInt8:=[]
 value:List UInt8:=[]
 target:Int:=0
 code:Int:=0
 matched:List UInt8:=[]
 text:List UInt8:=[]
 refs:List (List UInt8):=[]
 ctls:List Ct:=[]
namespace Rd
def fieldsOf (c:List UInt8):Option (List Fd):=
 if (Ber.listGo c.length [] [] c).2.2=0 then some ((Ber.listGo c.length [] [] c).1.zip (Ber.listGo c.length [] [] c).2.1) else none
def takeR (t:UInt8):Rdr (List UInt8)
 |(t',c)::r=>if t'=t then some (c,r) else none
 | []=>none
def taggedR (t:UInt8):Rdr (List UInt8):=fun F=>match takeR t F with
 | some (c,r)=>if c.length≤1000 then some (c,r) else none
 | none=>none
def textR:Rdr (List UInt8):=taggedR 4
def numR (t:UInt8) (most:Int):Rdr Int:=fun F=>match takeR t F with
 | some (c,r)=>if (Ber.toInt c).2=0∧0≤(Ber.toInt c).1∧(Ber.toInt c).1≤most then some ((Ber.toInt c).1,r) else none
 | none=>none
def flagR:Rdr Bool:=fun F=>match takeR 1 F with
 | some (c,r)=>if (Ber.toBool c).2=0 then some ((Ber.toBool c).1,r) else none
 | none=>none
def wholeR {α:Type} (c:List UInt8) (p:Rdr α):Option α:=match fieldsOf c with
 | none=>none
 | some G=>match p G with
  | some (x,[])=>some x
  | _=>none
def innerR {α:Type} (t:UInt8) (p:Rdr α):Rdr α:=fun F=>match takeR t F with
 | none=>none
 | some (c,r)=>(wholeR c p).map fun x=>(x,r)
def manyGo {α:Type} (p:Rdr α):Nat→List Fd→List α→Option (List α)
 | _,[],acc=>some acc
 | 0,_::_,_=>none
 | n+1,f::r,acc=>match p (f::r) with
  | none=>none
  | some (x,F)=>manyGo p n F (acc++[x])
def manyR {α:Type} (p:Rdr α):Rdr (List α):=fun F=>(manyGo p F.length F []).map fun l=>(l,[])
def listR {α:Type} (t:UInt8) (p:Rdr α):Rdr (List α):=innerR t (manyR p)
def someR {α:Type} (t:UInt8) (p:Rdr α):Rdr (List α):=fun F=>match listR t p F with
 | some (x::l,r)=>some (x::l,r)
 | _=>none
def andR {α β γ:Type} (p:Rdr α) (q:Rdr β) (f:α→β→γ):Rdr γ:=fun F=>match p F with
 | none=>none
 | some (x,G)=>match q G with
  | none=>none
  | some (y,H)=>some (f x y,H)
def nextIs (t:UInt8):List Fd→Bool
 |(t',_)::_=>t'==t
 | []=>false
def attrR:Rdr Atr:=innerR 0x30 (andR textR (listR 0x31 textR) Prod.mk)
def changeR:Rdr (Int × Atr):=innerR 0x30 (andR (numR 0x0a 3) attrR Prod.mk)
def critR:Rdr Bool:=fun F=>if nextIs 1 F then flagR F else some (false,F)
def valueR:Rdr (Bool × List UInt8):=fun F=>if F=[] then some ((false,[]),F) else (textR F).map fun p=>((true,p.1),p.2)
def controlR:Rdr Ct:=innerR 0x30 (andR (andR textR critR Prod.mk) valueR fun a v=>⟨a.1,a.2,v.1,v.2⟩)
def pieceR (t:UInt8):Rdr (List UInt8):=fun F=>match taggedR t F with
 | some (x::l,r)=>some (x::l,r)
 | _=>none
def optR (t:UInt8):Rdr (List UInt8):=fun F=>if nextIs t F then pieceR t F else some ([],F)
def anyGo:Nat→List Fd→List (List UInt8)→Option (List (List UInt8) × List Fd)
 | 0,F,acc=>if nextIs 0x81 F then none else some (acc,F)
 | n+1,F,acc=>if nextIs 0x81 F then (match pieceR 0x81 F with
   | none=>none
   | some (x,G)=>anyGo n G (acc++[x])) else some (acc,F)
def anyR:Rdr (List (List UInt8)):=fun F=>anyGo F.length F []
def piecesR:Rdr (List UInt8 × List (List UInt8) × List UInt8):=andR (andR (optR 0x80) anyR Prod.mk) (optR 0x82) fun a l=>(a.1,a.2,l)
def filterR:Nat→Rdr FT
 | 0=>fun _=>none
 | d+1=>fun F=>match F with
  | []=>none
  |(t,c)::r=>if t=0x87 then (taggedR t F).map fun p=>(.mk 7 p.1 [] [] [] [] [],p.2)
   else if t=0xa0∨t=0xa1∨t=0xa2 then innerR t (fun G=>(manyR (filterR d) G).map fun p=>(FT.mk ((t.toNat:Int)-160) [] [] [] [] [] p.1,p.2)) F
   else if t=0xa4 then innerR t (andR textR (innerR 0x30 piecesR) fun a p=>FT.mk 4 a [] p.1 p.2.2 p.2.1 []) F
   else if t=0xa3∨t=0xa5∨t=0xa6∨t=0xa8 then innerR t (andR textR textR fun a v=>FT.mk ((t.toNat:Int)-160) a v [] [] [] []) F
   else none
def formedR:Rdr FT:=fun F=>match filterR 20 F with
 | some (f,r)=>if f.formed then some (f,r) else none
 | none=>none
end Rd
end Go.Proofs.YtpkedjohgmnhhaaGreat
