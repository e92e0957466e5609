/- Several texts in one: BerListMath, BerList, BerBool, LMath, Base8, HTree, HNew, GrowL, GrowZ. By an AI agent. -/
import Derived.Test.YtcpjmgfloimfhaaGreatM01
import Derived.Test.YtcpjmgfloimfhaaGreatRows
import Derived.Test.YtcpjmgfloimfhaaGreatWords
import Derived.Test.YtcpjmgfloimfhaaGreatHMath
import Derived.Test.YtcpjmgfloimfhaaGreatSeat
import Derived.Deep.LoopGhost
import Derived.Deep.QuietTactic
import Derived.BigQuiet
import Derived.Handy
import Derived.Deep.CutRange
import Derived.Deep.CutBlock
import Derived.Laws.MakeOwn
import Derived.Laws.ResultCell
import Derived.Lib.Strings
import Derived.Lib.IndexBytes
import Derived.Deep.WholeRow
import Derived.Deep.RegionWith
import Derived.WalkLawsBesides
import Derived.Shelf.Abstract
import Derived.Deep.MidRow
import Derived.Laws.IdiomCopy
import Derived.Test.YtcpjmgfloimfhaaGreatGrow
set_option linter.unusedSimpArgs false
set_option linter.unusedVariables false
set_option maxRecDepth 100000
set_option maxHeartbeats 3200000
namespace Go.Proofs.YtcpjmgfloimfhaaGreat.Ber
open Go.RowKit
def listGo:Nat->List UInt8->List (List UInt8)->List UInt8->List UInt8 × List (List UInt8) × Int
 | 0,T,L,_=>(T,L,0)
 | f+1,T,L,rem=>if rem=[] then (T,L,0) else if (takeOf rem).2.2.2≠0 then ([],[],(takeOf rem).2.2.2) else
   listGo f (T++[UInt8.ofNat (takeOf rem).1]) (L++[(takeOf rem).2.1]) (takeOf rem).2.2.1
theorem listGo_nil (f:Nat) (T:List UInt8) (L:List (List UInt8)):listGo f T L []=(T,L,0):=by
 cases f with
 | zero=>rfl
 | succ f=>rw[listGo,if_pos rfl]
theorem takeOf_less (l:List UInt8) (h:l≠[]):(takeOf l).2.2.1.length<l.length/\(takeOf l).1<256:=by
 cases l with
 | nil=>exact absurd rfl h
 | cons t r=>
  have:=cutRest_le r
  have ht:=t.toNat_lt
  rw[takeOf,List.length_cons]
  split
  ·simp
  ·split
   ·simp
   ·split
    ·simp
    ·simp only[List.length_drop]
     omega
def Off (v:Value) (A:Option Addr) (ys:List UInt8):Prop:=ys=[]\/∀ad,A=some ad->some ad.block≠v.ownBlock
theorem Off.new {w w':World} {B base:Nat} {e e':TypeId} {v:Value} {n m c:Nat} {us:List Value} {A:Option Addr} {l:List UInt8} (h:w'.ownsRow B e' 1 (.slice A m c) m (bys l)) (ho:w.ownsRow base e 1 v n us) (hB:w.heap.size<=B):Off v A l:=by
 rcases Nat.eq_zero_or_pos m with h0 | h0
 ·left
  have:=h.1
  rw[h0] at this
  simpa[bys] using this
 ·refine .inr fun ad e1=>?_
  subst e1
  intro e2
  have h1:=(h.lt ad.block rfl).1
  have h2:=(ho.lt _ e2.symm).2
  omega
def New (base:Nat) (A:Option Addr) (l:List UInt8) (c:Nat):Prop:=(l=[]\/∀ad,A=some ad->base<=ad.block)/\l.length<=c/\c<=maxLen
structure Kept (w:World) (base:Nat) (tv cv:Value) (T:List UInt8) (xs:List Value) (L:List (List UInt8)):Prop where
 tags:w.ownsRow base 5 1 tv T.length (bys T)
 outer:w.ownsRow base 33 1 cv L.length xs
 apart:tv.ownBlock=none\/tv.ownBlock≠cv.ownBlock
 els:∀(i:Nat) (l:List UInt8),L[i]?=some l->∃A c,xs[i]?=some (Value.slice A l.length c)/\Has w w.heap.size 1 A l.length (bys l)/\Off tv A l/\Off cv A l/\New base A l c
theorem Has.grown {w w':World} {B n:Nat} {A:Option Addr} {l:List UInt8} {v:Value} (h:Has w B 1 A n (bys l)) (hB:B<=w.heap.size) (hg:w.grownBy w' v.ownBlock) (ho:Off v A l):Has w' B 1 A n (bys l):=by
 refine⟨h.1,?_⟩
 rcases ho with rfl | ho
 ·exact .inl rfl
 ·refine h.2.imp id ?_
  rintro ⟨ad,e,hb,hc⟩
  refine⟨ad,e,hb,fun j u hu=>?_⟩
  rw[World.cell?_of_block (w:=w) (hg.block _ (by rw[zBl];omega) (by rw[zBl];exact ho ad e))]
  exact hc j u hu
theorem Off.next {w:World} {A:Option Addr} {n:Nat} {l:List UInt8} {v v':Value} (h:Off v A l) (hH:Has w w.heap.size 1 A n (bys l)) (ht:v'.ownBlock=v.ownBlock\/v'.ownBlock=some w.heap.size):Off v' A l:=by
 rcases h with h | h
 ·exact .inl h
 ·rcases hH.2 with h0 | ⟨ad',e',hb,_⟩
  ·exact .inl (by simpa[bys] using h0)
  ·refine .inr fun ad e=>?_
   rcases ht with e1 | e1
   ·rw [e1]
    exact h ad e
   ·rw [e1]
    rw[e] at e'
    injection e' with e'
    subst e'
    intro e2
    injection e2 with e2
    omega
section
variable {w w':World} {base:Nat} {tv cv tv' cv':Value} {T:List UInt8} {xs:List Value} {L:List (List UInt8)}
theorem Kept.start (w:World) (base:Nat):Kept w base (.slice none 0 0) (.slice none 0 0) [] [] []:=
 ⟨World.ownsRow_nil _ _ _ _,World.ownsRow_nil _ _ _ _,.inl rfl,fun i l h=>by simp at h⟩
theorem Kept.below (h:Kept w base tv cv T xs L) (hb:Below w.heap.size w w'):Kept w' base tv cv T xs L:=
 ⟨zAo h.tags hb,zAo h.outer hb,h.apart,fun i l hl=>by
  obtain⟨A,c,e,hH,o1,o2,o3⟩:=h.els i l hl
  exact⟨A,c,e,(hH.below hb).upto hb.size,o1,o2,o3⟩⟩
theorem Kept.tag (h:Kept w base tv cv T xs L) (t:UInt8) (ho:w'.ownsRow base 5 1 tv' (T.length+1) (bys (T++[t]))) (hg:w.grownBy w' tv.ownBlock) (ht:tv'.ownBlock=tv.ownBlock\/tv'.ownBlock=some w.heap.size):
  Kept w' base tv' cv (T++[t]) xs L:=by
 refine⟨by simpa using ho,h.outer.kept hg ?_,?_,fun i l hl=>?_⟩
 ·rcases h.apart with e | e
  ·cases hc:cv.ownBlock with
   | none=>exact .inl rfl
   | some g=>exact .inr (by rw[e];simp)
  ·exact .inr fun e2=>e e2.symm
 ·rcases ht with e | e
  ·rw [e]
   exact h.apart
  ·right
   rw[e]
   intro e2
   have:=(h.outer.lt _ e2.symm).2
   omega
 ·obtain ⟨A,c,e,hH,o1,o2,o3⟩:=h.els i l hl
  exact⟨A,c,e,(Has.grown hH (Nat.le_refl _) hg o1).upto hg.size,o1.next hH ht,o2,o3⟩
theorem Kept.con (h:Kept w base tv cv T xs L) (A:Option Addr) (c:Nat) (l:List UInt8) (hH:Has w w.heap.size 1 A l.length (bys l)) (o1:Off tv A l) (o2:Off cv A l) (o3:New base A l c)
  (ho:w'.ownsRow base 33 1 cv' (L.length+1) (xs++[Value.slice A l.length c])) (hg:w.grownBy w' cv.ownBlock) (ht:cv'.ownBlock=cv.ownBlock\/cv'.ownBlock=some w.heap.size):
  Kept w' base tv cv' T (xs++[Value.slice A l.length c]) (L++[l]):=by
 have hx:xs.length=L.length:=by simpa using h.outer.1
 refine⟨h.tags.kept hg h.apart,by simpa using ho,?_,fun i m hm=>?_⟩
 ·rcases h.apart with e | e
  ·exact .inl e
  ·rcases ht with e1 | e1
   ·rw [e1]
    exact .inr e
   ·right
    rw[e1]
    intro e2
    have:=(h.tags.lt _ e2).2
    omega
 ·rcases Nat.lt_or_ge i L.length with hi | hi
  ·rw [List.getElem?_append_left hi] at hm
   obtain⟨A',c',e,hH',q1,q2,q3⟩:=h.els i m hm
   exact⟨A',c',by rw[List.getElem?_append_left (by omega)];exact e,(Has.grown hH' (Nat.le_refl _) hg q2).upto hg.size,q1,q2.next hH' ht,q3⟩
  ·rw [List.getElem?_append_right hi] at hm
   have hi0:i-L.length=0:=by
    rcases Nat.eq_zero_or_pos (i-L.length) with h0 | h0
    ·exact h0
    ·rw [List.getElem?_eq_none (by simp;omega)] at hm
     cases hm
   rw[hi0] at hm
   simp only[List.getElem?_cons_zero,Option.some.injEq] at hm
   subst hm
   refine⟨A,c,?_,(Has.grown hH (Nat.le_refl _) hg o2).upto hg.size,o1,o2.next hH ht,o3⟩
   rw[List.getElem?_append_right (by omega),show i-xs.length=0 by omega]
   rfl
end
theorem info22:(Tryz.prog.info? 33).map (fun i=>(i.zero,i.size,i.bytes))=some (some (.slice none 0 0),1,24):=by kernel_rfl
theorem app8g {ops:Array Oper} {rest:List Oper} {o:Oper} {a:Act} {Q:Exit->Act->World->Prop} (W:World) (hgd:o.guard=none) (s x:Operand)
  (ho:o.op=.call { callee:=.builtin .append,args:=#[s,x],argTypes:=#[33,33] })
  (base:Nat) (v:Value) (n:Nat) (xs:List UInt8) (hs:a.eval s=v) (hown:W.ownsRow base 5 1 v n (bys xs))
  (B:Nat) (A:Option Addr) (m c:Nat) (l:List UInt8) (hx:a.eval x=.slice A m c) (hr:Has W B 1 A m (bys l))
  (hb:n+m<=140737488355328) (hbase:base<=W.heap.size)
  (h:∀v' w',w'.ownsRow base 5 1 v' (n+m) (bys (xs++l))->(v'.ownBlock=v.ownBlock\/v'.ownBlock=some W.heap.size)->W.grownBy w' v.ownBlock->wpList Tryz.prog ops Q rest (a.put o.dst v') w'):
  wpList Tryz.prog ops Q (o::rest) a W:=by
 obtain⟨i0,hi,hz0,hz1,hz2⟩:=info_parts info8
 refine wpList_app W hgd s x 33 ho base 5 i0 _ 1 1 Tryz.underlying33 hi hz0 hz1 hz2 rfl (by omega) v n (bys xs) hs hown B A m c (bys l) hx hr (bys_one _) (by unfold maxLen;omega) (by omega) hbase ?_
 intro v' w' h1 h2 h3
 rw[<-bys_append] at h1
 exact h v' w' h1 h3 h2
theorem app22 {ops:Array Oper} {rest:List Oper} {o:Oper} {a:Act} {Q:Exit->Act->World->Prop} (W:World) (hgd:o.guard=none) (s x:Operand)
  (ho:o.op=.call { callee:=.builtin .append,args:=#[s,x],argTypes:=#[83,83] })
  (base:Nat) (v:Value) (n:Nat) (xs:List Value) (hs:a.eval s=v) (hown:W.ownsRow base 33 1 v n xs)
  (B:Nat) (A:Option Addr) (m c:Nat) (l:List Value) (hx:a.eval x=.slice A m c) (hr:Has W B 1 A m l) (h1:∀u∈l,u.oneCell'=true)
  (hb:n+m<=4000000000000) (hbase:base<=W.heap.size)
  (h:∀v' w',w'.ownsRow base 33 1 v' (n+m) (xs++l)->(v'.ownBlock=v.ownBlock\/v'.ownBlock=some W.heap.size)->W.grownBy w' v.ownBlock->wpList Tryz.prog ops Q rest (a.put o.dst v') w'):
  wpList Tryz.prog ops Q (o::rest) a W:=by
 obtain⟨i0,hi,hz0,hz1,hz2⟩:=info_parts info22
 refine wpList_app W hgd s x 83 ho base 33 i0 _ 1 24 Tryz.underlying83 hi hz0 hz1 hz2 rfl (by omega) v n xs hs hown B A m c l hx hr h1 (by unfold maxLen;omega) (by omega) hbase ?_
 intro v' w' h1 h2 h3
 exact h v' w' h1 h3 h2
end Go.Proofs.YtcpjmgfloimfhaaGreat.Ber
namespace Go.Proofs.YtcpjmgfloimfhaaGreat.Ber
open Go.RowKit
def LSp (w:World) (R:List UInt8 × List (List UInt8) × Int) (e:Ending) (w':World):Prop:=
 ∃tv cv xs,e=.returned (.tuple #[tv,cv,.int .i64 R.2.2])/\Kept w' w.heap.size tv cv R.1 xs R.2.1/\Below w.heap.size w w'
def sliceLen:Value->Nat
 | .slice _ m _=>m
 | _=>0
theorem list_of (w:World) (A:Option Addr) (n c:Nat) (l:List UInt8) (R:List UInt8 × List (List UInt8) × Int) (h:Has w w.heap.size 1 A l.length (bys l)) (hc:l.length<=c) (hm:c<=maxLen) (hn:l.length<=n) (hn8:n<=16777216)
  (HR:Hid (listGo n [] [] l=R)):
  Calls Tryz.prog 77 #[.slice A l.length c] w (LSp w R):=by
 have hk0:=Kept.start w w.heap.size
 have hb0:Below w.heap.size w w:=Below.refl _ _
 go_enter Tryz.func77,Tryz.ntmps77
 go_wp2
 go_loopw [5,6,7] (fun tv cv rv wr=>∃(f:Nat) (T rem:List UInt8) (xs:List Value) (L:List (List UInt8)) (Ar:Option Addr) (cr:Nat),
   rv=.slice Ar rem.length cr/\rem.length<=cr/\cr<=maxLen/\rem.length<=f/\T.length+rem.length<=n/\L.length+rem.length<=n/\Hid (listGo f T L rem=R)/\Has wr w.heap.size 1 Ar rem.length (bys rem)/\Kept wr w.heap.size tv cv T xs L/\Below w.heap.size w wr)
  (fun _ _ rv _=>sliceLen rv)
 case atStart=>exact⟨n,[],l,[],[],A,c,rfl,hc,hm,hn,by simpa using hn,by simpa using hn,HR,h,hk0,hb0⟩
 case round=>
  obtain⟨f,T,rem,xs,L,Ar,cr,rfl,hcr,hmr,hf,hT,hL,HG,hH,hK,hbr⟩:=hrel
  clear hk0 hb0 HR h hc hm hn
  by_cases hr:rem=[]
  ·subst hr
   have hg:=HG.out
   rw[listGo_nil] at hg
   subst hg
   clear HG
   go_wp2
   go_ret3
   exact⟨_,_,xs,rfl,hK,hbr⟩
  ·have hless:=takeOf_less rem hr
   have hle:=takeOf_le rem
   have hpos:0<rem.length:=List.length_pos_iff.2 hr
   obtain⟨f,rfl⟩:∃f',f=f'+1:=⟨f-1,by omega⟩
   have hg:=HG.out
   rw[listGo,if_neg hr] at hg
   have hcut:=cut_any wr w.heap.size Ar rem.length cr rem hH hbr.size hcr hmr
   obtain⟨k,con,rest,err,ht⟩:∃k con rest err,takeOf rem=(k,con,rest,err):=⟨_,_,_,_,rfl⟩
   rw[ht] at hcut hg hless hle
   simp only at hcut hg hless hle
   have HCUT:=hide hcut
   have HGG:=hide hg
   clear hcut hg HG ht hr
   by_cases he:err=0
   ·subst he
    have hk8:=c8_lit k hless.2
    have HK8:=hide hk8
    clear hk8
    go_wp2_with fail
    refine HCUT.out.mono ?_
    rintro e w1 ⟨A1,c1,A2,c2,rfl,q1,q2,q3,q4,q5,q6,hb1⟩
    clear HCUT
    have hbw1:Below w.heap.size w w1:=hbr.trans (hb1.mono hbr.size)
    have K1:=(hK.below hb1).below ((Below.refl w1.heap.size w1).alloc (Nat.le_refl _) (.cells #[.int .u8 (k:Int)] 5))
    have hbl:Below w.heap.size w1 (w1.alloc (.cells #[.int .u8 (k:Int)] 5)):=(Below.refl _ _).alloc hbw1.size _
    have hH1:Has (w1.alloc (.cells #[.int .u8 (k:Int)] 5)) (w1.heap.size+1) 1 (some ⟨w1.heap.size,0,none⟩) 1 (bys [UInt8.ofNat k]):=by
     have:=has_one w1 (.int .u8 (k:Int)) 5
     rw[show bys [UInt8.ofNat k]=[c8 (UInt8.ofNat k)] from rfl,HK8.out]
     exact this
    have hs1:=(hbw1.trans hbl).size
    clear hK
    go_wp2_with (at_builtin;go_must (refine app8g _ rfl (.tmp 26) (.tmp 28) rfl w.heap.size _ T.length T rfl K1.tags _ _ 1 1 [UInt8.ofNat k] rfl hH1 (by omega) hs1 ?_))
    intro tv2 w2 ho2 hat2 hg2
    have K2:=K1.tag (UInt8.ofNat k) ho2 hg2 (by simpa using hat2)
    have hb12:Below w.heap.size w1 w2:=hbl.trans (below_grown K1.tags hg2 hs1)
    have hs2:=(hbw1.trans hb12).size
    have hcl:=clone_any w2 w.heap.size A1 con.length c1 con (q1.below hb12) hs2 (by omega)
    have HCL:=hide hcl
    have q4':=q4.below hb12
    clear ho2 hat2 hg2 K1 hbl hH1 q1 q4 hcl
    go_wp2_with fail
    refine HCL.out.mono ?_
    rintro e w3 ⟨v3,rfl,ho3,hb3⟩
    obtain⟨A3,c3,rfl,hc3,hm3,hH3⟩:=own_form' ho3
    clear HCL
    have o1:Off tv2 A3 con:=Off.new ho3 K2.tags (Nat.le_refl _)
    have o2:Off _ A3 con:=Off.new ho3 K2.outer (Nat.le_refl _)
    have hba:Below w3.heap.size w3 (w3.alloc (.cells #[.slice A3 con.length c3] 33)):=(Below.refl _ _).alloc (Nat.le_refl _) _
    have o3:New w.heap.size A3 con c3:=⟨.inr fun ad e=>by
     subst e
     have:=(ho3.lt ad.block rfl).1
     omega,hc3,hm3⟩
    have K4:=(K2.below hb3).below hba
    have hH4:=has_one w3 (.slice A3 con.length c3) 33
    have hH5:=(hH3.below hba).upto hba.size
    have hb13:Below w.heap.size w1 w3:=hb12.trans (hb3.mono hs2)
    have hb14:Below w.heap.size w1 (w3.alloc (.cells #[.slice A3 con.length c3] 33)):=hb13.trans (hba.mono (Nat.le_trans hs2 hb3.size))
    have hs4:=(hbw1.trans hb14).size
    have q4'':=(q4'.below (hb3.mono hs2)).below (hba.mono (Nat.le_trans hs2 hb3.size))
    clear K2 ho3 hH3 q4' hb12 hb13
    go_wp2_with (at_builtin;go_must (refine app22 _ rfl (.tmp 30) (.tmp 33) rfl w.heap.size _ L.length xs rfl K4.outer _ _ 1 1 [.slice A3 con.length c3] rfl hH4 (by simp[Value.oneCell']) (by omega) hs4 ?_))
    intro cv5 w5 ho5 hat5 hg5
    have K5:=K4.con A3 c3 con hH5 o1 o2 o3 ho5 hg5 (by simpa using hat5)
    have hb5:Below w.heap.size _ w5:=below_grown K4.outer hg5 hs4
    have hbw5:=(hbw1.trans hb14).trans hb5
    have q:=q4''.below hb5
    clear ho5 hat5 hg5 K4 hH4 hH5 hb5 q4'' hb14 hba hb3 hb1 hbw1
    go_wp2
    go_roundw
    case rel=>exact⟨f,T++[UInt8.ofNat k],rest,xs++[.slice A3 con.length c3],L++[con],A2,c2,rfl,q5,q6,by omega,by simp;omega,by simp;omega,hide (by have:=HGG.out;rwa [if_neg (by simp)] at this),q,K5,hbw5⟩
    case measure=>simp[sliceLen];omega
   ·have hg:=HGG.out
    rw[if_pos he] at hg
    subst hg
    have heb:(err !=0)=true:=by rw[bne_iff_ne];exact he
    clear HGG he
    go_wp2_with fail
    refine HCUT.out.mono ?_
    rintro e w1 ⟨A1,c1,A2,c2,rfl,q1,q2,q3,q4,q5,q6,hb1⟩
    have hk:=Kept.start w1 w.heap.size
    have hbw1:Below w.heap.size w w1:=hbr.trans (hb1.mono hbr.size)
    clear HCUT hK
    go_wp2
    go_ret3
    exact⟨_,_,[],rfl,hk,hbw1⟩
end Go.Proofs.YtcpjmgfloimfhaaGreat.Ber
namespace Go.Proofs.YtcpjmgfloimfhaaGreat.Ber
open Go.RowKit
def toBool:List UInt8->Bool × Int
 | [b]=>((b.toNat:Int)!=0,0)
 | _=>(false,2)
theorem bool_any (b:Bool) (w:World):
  Calls Tryz.prog 148 #[.bool b] w fun e w'=>e=.returned (.slice (some ⟨w.heap.size,0,none⟩) 1 1)/\w.alloc (.cells #[c8 (if b then 255 else 0)] 5)=w':=by
 cases b<;>
 ·go_enter Tryz.func148,Tryz.ntmps148
  go_wp2
  go_ret
  exact⟨rfl,rfl⟩
theorem tobool_any (w:World) (B:Nat) (A:Option Addr) (n c:Nat) (l:List UInt8) (h:Has w B 1 A n (bys l)) (hc:n<=c) (_hm:c<=maxLen):
  Calls Tryz.prog 162 #[.slice A n c] w fun e w'=>e=.returned (.tuple #[.bool (toBool l).1,.int .i64 (toBool l).2])/\w=w':=by
 have hn:l.length=n:=by simpa[bys] using h.1
 unfold maxLen at _hm
 by_cases h1:n=1
 ·subst h1
  obtain⟨b,rfl⟩:=List.length_eq_one_iff.1 hn
  obtain⟨g,o,rfl,_,hcell⟩:=h.lies (by simp[bys])
  have h0:=hcell 0 (c8 b) rfl
  simp only[c8,Nat.add_zero] at h0
  have hb:=b.toNat_lt
  clear h hcell
  go_enter Tryz.func162,Tryz.ntmps162
  go_wp2
  go_ret2
  exact⟨rfl,rfl⟩
 ·have ht:toBool l=(false,2):=by
   unfold toBool
   split
   ·simp at hn;omega
   ·rfl
  rw[ht]
  have h2:((n:Int)!=1)=true:=by rw[bne_iff_ne];omega
  clear h hn ht
  go_enter Tryz.func162,Tryz.ntmps162
  go_wp2
  go_ret2
  exact⟨rfl,rfl⟩
end Go.Proofs.YtcpjmgfloimfhaaGreat.Ber
namespace Go.Proofs.YtcpjmgfloimfhaaGreat
open Go.RowKit
abbrev Fd:=UInt8 × List UInt8
abbrev Rdr (α:Type):=List Fd->Option (α × List Fd)
structure Ct where
 oid:List UInt8
 crit:Bool
 hasv:Bool
 value:List UInt8
abbrev Atr:=List UInt8 × List (List UInt8)
structure MT where
 id:Int
 kind:Int
 name:List UInt8:=[]
 pw:List UInt8:=[]
 ver:Int:=0
 scope:Int:=0
 deref:Int:=0
 size:Int:=0
 time:Int:=0
 tonly:Bool:=false
 filt:FT:=.mk 0 [] [] [] [] [] []
 attrs:List (List UInt8):=[]
 lst:List Atr:=[]
 chs:List (Int × Atr):=[]
 nrdn:List UInt8:=[]
 delold:Bool:=false
 hassup:Bool:=false
 sup:List UInt8:=[]
 attr:List UInt8:=[]
 value:List UInt8:=[]
 target:Int:=0
 code:Int:=0
 matched:List UInt8:=[]
 text:List UInt8:=[]
 refs:List (List UInt8):=[]
 ctls:List Ct:=[]
namespace Rd
def fieldsOf (c:List UInt8):Option (List Fd):=
 if (Ber.listGo c.length [] [] c).2.2=0 then some ((Ber.listGo c.length [] [] c).1.zip (Ber.listGo c.length [] [] c).2.1) else none
def takeR (t:UInt8):Rdr (List UInt8)
 |(t',c)::r=>if t'=t then some (c,r) else none
 | []=>none
def taggedR (t:UInt8):Rdr (List UInt8):=fun F=>match takeR t F with
 | some (c,r)=>if c.length<=1000 then some (c,r) else none
 | none=>none
def textR:Rdr (List UInt8):=taggedR 4
def numR (t:UInt8) (most:Int):Rdr Int:=fun F=>match takeR t F with
 | some (c,r)=>if (Ber.toInt c).2=0/\0<=(Ber.toInt c).1/\(Ber.toInt c).1<=most then some ((Ber.toInt c).1,r) else none
 | none=>none
def flagR:Rdr Bool:=fun F=>match takeR 1 F with
 | some (c,r)=>if (Ber.toBool c).2=0 then some ((Ber.toBool c).1,r) else none
 | none=>none
def wholeR {α:Type} (c:List UInt8) (p:Rdr α):Option α:=match fieldsOf c with
 | none=>none
 | some G=>match p G with
  | some (x,[])=>some x
  | _=>none
def innerR {α:Type} (t:UInt8) (p:Rdr α):Rdr α:=fun F=>match takeR t F with
 | none=>none
 | some (c,r)=>(wholeR c p).map fun x=>(x,r)
def manyGo {α:Type} (p:Rdr α):Nat->List Fd->List α->Option (List α)
 | _,[],acc=>some acc
 | 0,_::_,_=>none
 | n+1,f::r,acc=>match p (f::r) with
  | none=>none
  | some (x,F)=>manyGo p n F (acc++[x])
def manyR {α:Type} (p:Rdr α):Rdr (List α):=fun F=>(manyGo p F.length F []).map fun l=>(l,[])
def listR {α:Type} (t:UInt8) (p:Rdr α):Rdr (List α):=innerR t (manyR p)
def someR {α:Type} (t:UInt8) (p:Rdr α):Rdr (List α):=fun F=>match listR t p F with
 | some (x::l,r)=>some (x::l,r)
 | _=>none
def andR {α β γ:Type} (p:Rdr α) (q:Rdr β) (f:α->β->γ):Rdr γ:=fun F=>match p F with
 | none=>none
 | some (x,G)=>match q G with
  | none=>none
  | some (y,H)=>some (f x y,H)
def nextIs (t:UInt8):List Fd->Bool
 |(t',_)::_=>t'==t
 | []=>false
def attrR:Rdr Atr:=innerR 0x30 (andR textR (listR 0x31 textR) Prod.mk)
def changeR:Rdr (Int × Atr):=innerR 0x30 (andR (numR 0x0a 3) attrR Prod.mk)
def critR:Rdr Bool:=fun F=>if nextIs 1 F then flagR F else some (false,F)
def valueR:Rdr (Bool × List UInt8):=fun F=>if F=[] then some ((false,[]),F) else (textR F).map fun p=>((true,p.1),p.2)
def controlR:Rdr Ct:=innerR 0x30 (andR (andR textR critR Prod.mk) valueR fun a v=>⟨a.1,a.2,v.1,v.2⟩)
def pieceR (t:UInt8):Rdr (List UInt8):=fun F=>match taggedR t F with
 | some (x::l,r)=>some (x::l,r)
 | _=>none
def optR (t:UInt8):Rdr (List UInt8):=fun F=>if nextIs t F then pieceR t F else some ([],F)
def anyGo:Nat->List Fd->List (List UInt8)->Option (List (List UInt8) × List Fd)
 | 0,F,acc=>if nextIs 0x81 F then none else some (acc,F)
 | n+1,F,acc=>if nextIs 0x81 F then (match pieceR 0x81 F with
   | none=>none
   | some (x,G)=>anyGo n G (acc++[x])) else some (acc,F)
def anyR:Rdr (List (List UInt8)):=fun F=>anyGo F.length F []
def piecesR:Rdr (List UInt8 × List (List UInt8) × List UInt8):=andR (andR (optR 0x80) anyR Prod.mk) (optR 0x82) fun a l=>(a.1,a.2,l)
def filterR:Nat->Rdr FT
 | 0=>fun _=>none
 | d+1=>fun F=>match F with
  | []=>none
  |(t,c)::r=>if t=0x87 then (taggedR t F).map fun p=>(.mk 7 p.1 [] [] [] [] [],p.2)
   else if t=0xa0\/t=0xa1\/t=0xa2 then innerR t (fun G=>(manyR (filterR d) G).map fun p=>(FT.mk ((t.toNat:Int)-160) [] [] [] [] [] p.1,p.2)) F
   else if t=0xa4 then innerR t (andR textR (innerR 0x30 piecesR) fun a p=>FT.mk 4 a [] p.1 p.2.2 p.2.1 []) F
   else if t=0xa3\/t=0xa5\/t=0xa6\/t=0xa8 then innerR t (andR textR textR fun a v=>FT.mk ((t.toNat:Int)-160) a v [] [] [] []) F
   else none
def formedR:Rdr FT:=fun F=>match filterR 20 F with
 | some (f,r)=>if f.formed then some (f,r) else none
 | none=>none
end Rd
theorem below1 (w:World) (o:Obj):Below w.heap.size w (w.alloc o):=(Below.refl _ w).alloc (Nat.le_refl _) _
theorem zBt (l:List UInt8):(txt l).size=l.length:=by simp[txt,ByteArray.size]
def strs (L:List (List UInt8)):List Value:=L.map fun x=>.string (txt x)
theorem strs_length (L:List (List UInt8)):(strs L).length=L.length:=by simp[strs]
theorem strs_one (L:List (List UInt8)):∀u∈strs L,u.oneCell'=true:=by
 intro u hu
 obtain⟨b,_,rfl⟩:=List.mem_map.1 hu
 rfl
theorem Has.strs_n {w:World} {B:Nat} {A:Option Addr} {n:Nat} {L:List (List UInt8)} (h:Has w B 1 A n (strs L)):n=L.length:=by
 have:=h.1
 rw[strs_length] at this
 omega
theorem Has.texts {w:World} {B:Nat} {A:Option Addr} {n:Nat} {L:List (List UInt8)} (h:Has w B 1 A n (strs L)) (hl:L≠[]):
  ∃g o,A=some ⟨g,o,none⟩/\g<B/\∀(i:Nat) (x:List UInt8),L[i]?=some x->w.cell? ⟨g,o+i,none⟩=some (.string (txt x)):=by
 obtain⟨g,o,rfl,hb,hc⟩:=h.lies (by rw[strs_length];exact List.length_pos_iff.2 hl)
 exact⟨g,o,rfl,hb,fun i x hx=>hc i _ (by simp[strs,hx])⟩
theorem infoS:(Tryz.prog.info? 9).map (fun i=>(i.zero,i.size,i.bytes))=some (some (.string .empty),1,16):=by kernel_rfl
theorem str_ne {a b:List UInt8} (h:a≠b):((txt a).toList==(txt b).toList)=false:=by rw[zBo,zBo];simpa using h
theorem app8g {ops:Array Oper} {rest:List Oper} {o:Oper} {a:Act} {Q:Exit->Act->World->Prop} (W:World) (hgd:o.guard=none) (s x:Operand)
  (ho:o.op=.call { callee:=.builtin .append,args:=#[s,x],argTypes:=#[33,33] })
  (base:Nat) (v:Value) (n:Nat) (xs:List UInt8) (hs:a.eval s=v) (hown:W.ownsRow base 5 1 v n (bys xs))
  (B:Nat) (A:Option Addr) (m c:Nat) (l:List UInt8) (hx:a.eval x=.slice A m c) (hr:Has W B 1 A m (bys l)) (ys:List UInt8) (hys:Hid (xs++l=ys)) (hlen:Hid (n+m=ys.length))
  (hb:n+m<=140737488355328) (hbase:base<=W.heap.size)
  (h:∀v' w',w'.ownsRow base 5 1 v' ys.length (bys ys)->Below base W w'->W.grownBy w' v.ownBlock->wpList Tryz.prog ops Q rest (a.put o.dst v') w'):
  wpList Tryz.prog ops Q (o::rest) a W:=by
 obtain⟨i0,hi,hz0,hz1,hz2⟩:=info_parts info8
 refine wpList_app W hgd s x 33 ho base 5 i0 _ 1 1 Tryz.underlying33 hi hz0 hz1 hz2 rfl (by omega) v n (bys xs) hs hown B A m c (bys l) hx hr (bys_one _) (by unfold maxLen;omega) (by omega) hbase ?_
 intro v' w' h1 h2 h3
 rw[<-bys_append,hys.out,hlen.out] at h1
 exact h v' w' h1 (below_grown hown h2 hbase) h2
mutual
def FIn (w:World) (B:Nat):FT->List Value->Prop
 | .mk k a v f l any ps,cs=>∃A c D d xs,cs=[.int .i64 k,.string (txt a),.string (txt v),.string (txt f),.string (txt l),.slice A any.length c,.slice D ps.length d]/\
   (any.length<=maxLen/\ps.length<=maxLen)/\Has w B 1 A any.length (strs any)/\Has w B 7 D ps.length xs/\FsIn w B ps xs
def FsIn (w:World) (B:Nat):List FT->List Value->Prop
 | [],xs=>xs=[]
 | p::r,xs=>FIn w B p (xs.take 7)/\FsIn w B r (xs.drop 7)
end
section
variable {w w':World} {B B':Nat}
theorem FIn.len:∀{t:FT} {cs:List Value},FIn w B t cs->cs.length=7
 | .mk ..,cs,h=>by simp only[FIn] at h;obtain⟨A,c,D,d,xs,rfl,_⟩:=h;rfl
theorem FsIn.len:∀{ps:List FT} {xs:List Value},FsIn w B ps xs->xs.length=7*ps.length
 | [],xs,h=>by simp only[FsIn] at h;subst h;rfl
 | p::r,xs,h=>by
  simp only[FsIn] at h
  have h1:=FIn.len h.1
  have h2:=FsIn.len h.2
  simp only[List.length_take,List.length_drop,List.length_cons] at h1 h2 ⊢
  omega
mutual
theorem FIn.move (hH:∀(sz:Nat) (A:Option Addr) (n:Nat) (xs:List Value),Has w B sz A n xs->Has w' B' sz A n xs):∀(t:FT) (cs:List Value),FIn w B t cs->FIn w' B' t cs
 | .mk k a v f l any ps,cs,h=>by
  simp only[FIn] at h ⊢
  obtain⟨A,c,D,d,xs,h1,hm,h2,h3,h4⟩:=h
  exact⟨A,c,D,d,xs,h1,hm,hH _ _ _ _ h2,hH _ _ _ _ h3,FsIn.move hH ps xs h4⟩
theorem FsIn.move (hH:∀(sz:Nat) (A:Option Addr) (n:Nat) (xs:List Value),Has w B sz A n xs->Has w' B' sz A n xs):∀(ps:List FT) (xs:List Value),FsIn w B ps xs->FsIn w' B' ps xs
 | [],xs,h=>by simp only[FsIn] at h ⊢;exact h
 | p::r,xs,h=>by
  simp only[FsIn] at h ⊢
  exact⟨FIn.move hH p _ h.1,FsIn.move hH r _ h.2⟩
end
theorem FIn.below {t:FT} {cs:List Value} (h:FIn w B t cs) (hb:Below B w w'):FIn w' B t cs:=FIn.move (fun _ _ _ _ h=>h.below hb) t cs h
theorem FIn.upto {t:FT} {cs:List Value} (h:FIn w B t cs) (hB:B<=B'):FIn w B' t cs:=FIn.move (fun _ _ _ _ h=>h.upto hB) t cs h
theorem FsIn.below {ps:List FT} {xs:List Value} (h:FsIn w B ps xs) (hb:Below B w w'):FsIn w' B ps xs:=FsIn.move (fun _ _ _ _ h=>h.below hb) ps xs h
theorem FsIn.upto {ps:List FT} {xs:List Value} (h:FsIn w B ps xs) (hB:B<=B'):FsIn w B' ps xs:=FsIn.move (fun _ _ _ _ h=>h.upto hB) ps xs h
theorem FIn.grow {t:FT} {cs:List Value} (h:FIn w w.heap.size t cs) (hb:Below w.heap.size w w'):FIn w' w'.heap.size t cs:=(h.below hb).upto hb.size
theorem FsIn.at_:∀{ps:List FT} {xs:List Value} (h:FsIn w B ps xs) (i:Nat) (p:FT),ps[i]?=some p->FIn w B p ((xs.drop (i*7)).take 7)
 | [],xs,h,i,p,hp=>by simp at hp
 | q::r,xs,h,0,p,hp=>by
  simp only[FsIn] at h
  simp only[List.getElem?_cons_zero,Option.some.injEq] at hp
  subst hp
  simpa using h.1
 | q::r,xs,h,i+1,p,hp=>by
  simp only[FsIn] at h
  simp only[List.getElem?_cons_succ] at hp
  have:=FsIn.at_ h.2 i p hp
  rw[List.drop_drop] at this
  rwa [show (i+1)*7=7+i*7 by omega]
theorem FsIn.snoc:∀{ps:List FT} {xs:List Value} {p:FT} {cs:List Value},FsIn w B ps xs->FIn w B p cs->FsIn w B (ps++[p]) (xs++cs)
 | [],xs,p,cs,h,hp=>by
  simp only[FsIn] at h
  subst h
  have:=hp.len
  simp only[List.nil_append,FsIn]
  refine⟨by rw[List.take_of_length_le (by omega)];exact hp,List.drop_eq_nil_of_le (by omega)⟩
 | q::r,xs,p,cs,h,hp=>by
  have hl:=h.len
  simp only[List.length_cons] at hl
  simp only[FsIn] at h
  simp only[List.cons_append,FsIn]
  refine⟨by rw[List.take_append_of_le_length (by omega)];exact h.1,?_⟩
  rw[List.drop_append_of_le_length (by omega)]
  exact FsIn.snoc h.2 hp
structure Box7 (w:World) (b:Nat) (k:Int) (a v f l:ByteArray) (A:Option Addr) (m c:Nat) (D:Option Addr) (n d:Nat):Prop where
 lt:b<w.heap.size
 c0:w.cell? ⟨b,0,none⟩=some (.int .i64 k)
 c1:w.cell? ⟨b,1,none⟩=some (.string a)
 c2:w.cell? ⟨b,2,none⟩=some (.string v)
 c3:w.cell? ⟨b,3,none⟩=some (.string f)
 c4:w.cell? ⟨b,4,none⟩=some (.string l)
 c5:w.cell? ⟨b,5,none⟩=some (.slice A m c)
 c6:w.cell? ⟨b,6,none⟩=some (.slice D n d)
variable {k:Int} {a v f l:ByteArray} {A D:Option Addr} {m c n d b:Nat}
theorem Box7.new (w:World) (k:Int) (a v f l:ByteArray) (A:Option Addr) (m c:Nat) (D:Option Addr) (n d:Nat) (e:TypeId):
  Box7 (w.alloc (.cells #[.int .i64 k,.string a,.string v,.string f,.string l,.slice A m c,.slice D n d] e)) w.heap.size k a v f l A m c D n d:=by
 refine⟨by simp,?_,?_,?_,?_,?_,?_,?_⟩<;>(rw[World.cell?_alloc_at (hn:=by simp)];rfl)
theorem Box7.below {E:Nat} (h:Box7 w b k a v f l A m c D n d) (hE:b<E) (hb:Below E w w'):Box7 w' b k a v f l A m c D n d:=
 ⟨Nat.lt_of_lt_of_le h.lt hb.size,(hb.cell (p:=⟨b,0,none⟩) hE).trans h.c0,(hb.cell (p:=⟨b,1,none⟩) hE).trans h.c1,(hb.cell (p:=⟨b,2,none⟩) hE).trans h.c2,(hb.cell (p:=⟨b,3,none⟩) hE).trans h.c3,
  (hb.cell (p:=⟨b,4,none⟩) hE).trans h.c4,(hb.cell (p:=⟨b,5,none⟩) hE).trans h.c5,(hb.cell (p:=⟨b,6,none⟩) hE).trans h.c6⟩
structure Part7 (w:World) (B g o:Nat) (p:FT) (u0 u1 u2 u3 u4 u5 u6:Value):Prop where
 fin:FIn w B p [u0,u1,u2,u3,u4,u5,u6]
 lt:g<B
 e0:w.cell? ⟨g,o,none⟩=some u0
 e1:w.cell? ⟨g,o+1,none⟩=some u1
 e2:w.cell? ⟨g,o+2,none⟩=some u2
 e3:w.cell? ⟨g,o+3,none⟩=some u3
 e4:w.cell? ⟨g,o+4,none⟩=some u4
 e5:w.cell? ⟨g,o+5,none⟩=some u5
 e6:w.cell? ⟨g,o+6,none⟩=some u6
theorem Part7.below {g o:Nat} {p:FT} {u0 u1 u2 u3 u4 u5 u6:Value} (h:Part7 w B g o p u0 u1 u2 u3 u4 u5 u6) (hb:Below B w w'):Part7 w' B g o p u0 u1 u2 u3 u4 u5 u6:=
 ⟨h.fin.below hb,h.lt,(hb.cell (p:=⟨g,o,none⟩) h.lt).trans h.e0,(hb.cell (p:=⟨g,o+1,none⟩) h.lt).trans h.e1,(hb.cell (p:=⟨g,o+2,none⟩) h.lt).trans h.e2,(hb.cell (p:=⟨g,o+3,none⟩) h.lt).trans h.e3,
  (hb.cell (p:=⟨g,o+4,none⟩) h.lt).trans h.e4,(hb.cell (p:=⟨g,o+5,none⟩) h.lt).trans h.e5,(hb.cell (p:=⟨g,o+6,none⟩) h.lt).trans h.e6⟩
theorem Part7.up {g o:Nat} {p:FT} {u0 u1 u2 u3 u4 u5 u6:Value} (h:Part7 w B g o p u0 u1 u2 u3 u4 u5 u6) (hB:B<=B'):Part7 w B' g o p u0 u1 u2 u3 u4 u5 u6:=
 ⟨h.fin.upto hB,Nat.lt_of_lt_of_le h.lt hB,h.e0,h.e1,h.e2,h.e3,h.e4,h.e5,h.e6⟩
theorem seven {cs:List Value} (h:cs.length=7):∃u0 u1 u2 u3 u4 u5 u6,cs=[u0,u1,u2,u3,u4,u5,u6]:=by
 match cs,h with
 | [u0,u1,u2,u3,u4,u5,u6],_=>exact⟨_,_,_,_,_,_,_,rfl⟩
theorem Has.part {xs:List Value} {ps:List FT} (h:Has w B 7 D ps.length xs) (hf:FsIn w B ps xs) (hn:ps≠[]):
  ∃g o,D=some ⟨g,o,none⟩/\g<B/\∀(i:Nat) (p:FT),ps[i]?=some p->∃u0 u1 u2 u3 u4 u5 u6,Part7 w B g (o+i*7) p u0 u1 u2 u3 u4 u5 u6:=by
 have hl:=hf.len
 have hp:=List.length_pos_iff.2 hn
 obtain⟨g,o,rfl,hg,hc⟩:=h.lies (by omega)
 refine⟨g,o,rfl,hg,fun i p hi=>?_⟩
 have hfin:=hf.at_ i p hi
 obtain⟨u0,u1,u2,u3,u4,u5,u6,he⟩:=seven hfin.len
 have key:∀(j:Nat) (u:Value),[u0,u1,u2,u3,u4,u5,u6][j]?=some u->w.cell? ⟨g,o+i*7+j,none⟩=some u:=by
  intro j u hu
  rw[<-he] at hu
  have:=hc (i*7+j) u (by
   rw[List.getElem?_take] at hu
   split at hu
   ·rwa [List.getElem?_drop] at hu
   ·cases hu)
  rwa [<-Nat.add_assoc] at this
 rw[he] at hfin
 exact⟨u0,u1,u2,u3,u4,u5,u6,hfin,hg,key 0 _ rfl,key 1 _ rfl,key 2 _ rfl,key 3 _ rfl,key 4 _ rfl,key 5 _ rfl,key 6 _ rfl⟩
end
theorem bne_of {b c:List UInt8} {x:Bool} (h:(b==c)=x):(b !=c)= !x:=by unfold bne;rw[h]
theorem infoF:(Tryz.prog.info? 39).map (fun i=>(i.zero,i.size,i.bytes))=some (some (.agg #[.int .i64 0,.string .empty,.string .empty,.string .empty,.string .empty,.slice none 0 0,.slice none 0 0]),7,120):=by kernel_rfl
theorem infoG:(Tryz.prog.info? 25).map (fun i=>(i.zero,i.size,i.bytes))=some (some (.agg #[.int .i64 0,.string .empty,.string .empty,.string .empty,.string .empty,.slice none 0 0,.slice none 0 0]),7,120):=by kernel_rfl
end Go.Proofs.YtcpjmgfloimfhaaGreat
namespace Go.Proofs.YtcpjmgfloimfhaaGreat
open Go.RowKit
def HasP (w:World) (P:Nat->Prop) (size:Nat) (A:Option Addr) (n:Nat) (xs:List Value):Prop:=
 xs.length=n*size/\(xs=[]\/∃ad,A=some ad/\P ad.block/\∀j u,xs[j]?=some u->w.cell? (ad.add j)=some u)
section
variable {w w':World} {P P':Nat->Prop} {B size n:Nat} {A:Option Addr} {xs:List Value}
theorem HasP.has (h:HasP w P size A n xs) (hP:∀b,P b->b<B):Has w B size A n xs:=
 ⟨h.1,h.2.imp id fun ⟨ad,e,hb,hc⟩=>⟨ad,e,hP _ hb,hc⟩⟩
theorem HasP.move (h:HasP w P size A n xs) (hc:∀p:Addr,P p.block->w'.cell? p=w.cell? p) (hP:∀b,P b->P' b):HasP w' P' size A n xs:=
 ⟨h.1,h.2.imp id fun ⟨ad,e,hb,hx⟩=>⟨ad,e,hP _ hb,fun j u hu=>(hc _ (by rw[zBl];exact hb)).trans (hx j u hu)⟩⟩
theorem Has.hasP (h:Has w B size A n xs):HasP w (fun b=>b<B) size A n xs:=h
theorem zA5 {base:Nat} {e:TypeId} {v:Value} (h:w.ownsRow base e size v n xs):∃A c,v=.slice A n c/\n<=c/\HasP w (fun b=>base<=b/\b<w.heap.size) size A n xs:=by
 rcases h.2 with⟨rfl,rfl⟩ | ⟨g,cap,cur,rfl,hb,hh,hnc,_,hs,ht⟩
 ·exact ⟨none,0,rfl,Nat.le_refl _,h.1,.inl (List.eq_nil_of_length_eq_zero (by simpa using h.1))⟩
 ·refine ⟨_,cap,rfl,hnc,h.1,?_⟩
  have hlt:g<w.heap.size:=(Array.getElem?_eq_some_iff.1 hh).1
  rcases Nat.eq_zero_or_pos n with h0 | h0
  ·subst h0
   exact .inl (List.eq_nil_of_length_eq_zero (by simpa using h.1))
  ·obtain ⟨g',cap',hv,_,hlt'⟩:=h.form h0
   injection hv with hA
   injection hA with hA
   injection hA with hg
   subst hg
   exact .inr ⟨_,rfl,⟨hb,hlt⟩,h.cells (g:=g) rfl⟩
end
mutual
def FInP (w:World) (P:Nat->Prop):FT->List Value->Prop
 | .mk k a v f l any ps,cs=>∃A c D d xs,cs=[.int .i64 k,.string (txt a),.string (txt v),.string (txt f),.string (txt l),.slice A any.length c,.slice D ps.length d]/\
   (any.length<=maxLen/\ps.length<=maxLen)/\HasP w P 1 A any.length (strs any)/\HasP w P 7 D ps.length xs/\FsInP w P ps xs
def FsInP (w:World) (P:Nat->Prop):List FT->List Value->Prop
 | [],xs=>xs=[]
 | p::r,xs=>FInP w P p (xs.take 7)/\FsInP w P r (xs.drop 7)
end
section
variable {w w':World} {P P':Nat->Prop} {B:Nat}
mutual
theorem FInP.fin (hP:∀b,P b->b<B):∀{t:FT} {cs:List Value},FInP w P t cs->FIn w B t cs
 | .mk k a v f l any ps,cs,h=>by
  simp only[FInP] at h
  simp only[FIn]
  obtain⟨A,c,D,d,xs,h1,hm,h2,h3,h4⟩:=h
  exact⟨A,c,D,d,xs,h1,hm,h2.has hP,h3.has hP,FsInP.fin hP h4⟩
theorem FsInP.fin (hP:∀b,P b->b<B):∀{ps:List FT} {xs:List Value},FsInP w P ps xs->FsIn w B ps xs
 | [],xs,h=>by simp only[FsInP] at h;simp only[FsIn];exact h
 | p::r,xs,h=>by
  simp only[FsInP] at h
  simp only[FsIn]
  exact⟨FInP.fin hP h.1,FsInP.fin hP h.2⟩
end
mutual
theorem FInP.move (hc:∀p:Addr,P p.block->w'.cell? p=w.cell? p) (hP:∀b,P b->P' b):∀{t:FT} {cs:List Value},FInP w P t cs->FInP w' P' t cs
 | .mk k a v f l any ps,cs,h=>by
  simp only[FInP] at h ⊢
  obtain⟨A,c,D,d,xs,h1,hm,h2,h3,h4⟩:=h
  exact⟨A,c,D,d,xs,h1,hm,h2.move hc hP,h3.move hc hP,FsInP.move hc hP h4⟩
theorem FsInP.move (hc:∀p:Addr,P p.block->w'.cell? p=w.cell? p) (hP:∀b,P b->P' b):∀{ps:List FT} {xs:List Value},FsInP w P ps xs->FsInP w' P' ps xs
 | [],xs,h=>by simp only[FsInP] at h ⊢;exact h
 | p::r,xs,h=>by
  simp only[FsInP] at h ⊢
  exact⟨FInP.move hc hP h.1,FsInP.move hc hP h.2⟩
end
theorem FInP.len {t:FT} {cs:List Value} (h:FInP w P t cs):cs.length=7:=by
 cases t with
 | mk k a v f l any ps=>
  simp only[FInP] at h
  obtain⟨A,c,D,d,xs,rfl,_⟩:=h
  rfl
theorem FInP.one {t:FT} {cs:List Value} (h:FInP w P t cs):∀u∈cs,u.oneCell'=true:=by
 cases t with
 | mk k a v f l any ps=>
  simp only[FInP] at h
  obtain⟨A,c,D,d,xs,rfl,_⟩:=h
  intro u hu
  simp only[List.mem_cons,List.not_mem_nil,or_false] at hu
  rcases hu with rfl | rfl | rfl | rfl | rfl | rfl | rfl<;>rfl
theorem FsInP.len:∀{ps:List FT} {xs:List Value},FsInP w P ps xs->xs.length=7*ps.length
 | [],xs,h=>by simp only[FsInP] at h;subst h;rfl
 | p::r,xs,h=>by
  simp only[FsInP] at h
  have h1:=h.1.len
  have h2:=FsInP.len h.2
  simp only[List.length_take,List.length_drop,List.length_cons] at h1 h2 ⊢
  omega
theorem FsInP.snoc:∀{ps:List FT} {xs:List Value} {p:FT} {cs:List Value},FsInP w P ps xs->FInP w P p cs->FsInP w P (ps++[p]) (xs++cs)
 | [],xs,p,cs,h,hp=>by
  simp only[FsInP] at h
  subst h
  have:=hp.len
  simp only[List.nil_append,FsInP]
  refine⟨by rw[List.take_of_length_le (by omega)];exact hp,List.drop_eq_nil_of_le (by omega)⟩
 | q::r,xs,p,cs,h,hp=>by
  have hl:=h.len
  simp only[List.length_cons] at hl
  simp only[FsInP] at h
  simp only[List.cons_append,FsInP]
  refine⟨by rw[List.take_append_of_le_length (by omega)];exact h.1,?_⟩
  rw[List.drop_append_of_le_length (by omega)]
  exact FsInP.snoc h.2 hp
structure Out7 (w:World) (h:Nat) (u0 u1 u2 u3 u4 u5 u6:Value):Prop where
 lt:h<w.heap.size
 c0:w.cell? ⟨h,0,none⟩=some u0
 c1:w.cell? ⟨h,1,none⟩=some u1
 c2:w.cell? ⟨h,2,none⟩=some u2
 c3:w.cell? ⟨h,3,none⟩=some u3
 c4:w.cell? ⟨h,4,none⟩=some u4
 c5:w.cell? ⟨h,5,none⟩=some u5
 c6:w.cell? ⟨h,6,none⟩=some u6
 fz:∀i,w.frozen? ⟨h,i,none⟩=false
variable {h:Nat} {u0 u1 u2 u3 u4 u5 u6:Value}
theorem Out7.new (w:World) (e:TypeId):Out7 (w.alloc (.cells #[u0,u1,u2,u3,u4,u5,u6] e)) w.heap.size u0 u1 u2 u3 u4 u5 u6:=by
 refine⟨by simp,?_,?_,?_,?_,?_,?_,?_,fun i=>World.frozen?_alloc_at _ _ _ _ rfl⟩<;>(rw[World.cell?_alloc_at (hn:=by simp)];rfl)
theorem Out7.keep (t:Out7 w h u0 u1 u2 u3 u4 u5 u6) (hs:w.heap.size<=w'.heap.size) (hb:w'.heap[h]?=w.heap[h]?):Out7 w' h u0 u1 u2 u3 u4 u5 u6:=
 have k:∀i,w'.cell? ⟨h,i,none⟩=w.cell? ⟨h,i,none⟩:=fun i=>World.cell?_of_block (a:=⟨h,i,none⟩) hb
 ⟨Nat.lt_of_lt_of_le t.lt hs,(k 0).trans t.c0,(k 1).trans t.c1,(k 2).trans t.c2,(k 3).trans t.c3,(k 4).trans t.c4,(k 5).trans t.c5,(k 6).trans t.c6,
  fun i=>(World.frozen?_of_block (a:=⟨h,i,none⟩) hb).trans (t.fz i)⟩
theorem Out7.below (t:Out7 w h u0 u1 u2 u3 u4 u5 u6) {D:Nat} (hD:h<D) (hb:Below D w w'):Out7 w' h u0 u1 u2 u3 u4 u5 u6:=t.keep hb.size (hb.block h hD)
theorem Out7.set6 (t:Out7 w h u0 u1 u2 u3 u4 u5 u6) (u:Value):Out7 (w.setCell ⟨h,6,none⟩ u) h u0 u1 u2 u3 u4 u5 u:=by
 have k:∀i,i≠6->(w.setCell ⟨h,6,none⟩ u).cell? ⟨h,i,none⟩=w.cell? ⟨h,i,none⟩:=fun i hi=>World.cell?_setCell_other _ _ _ _ (by simp;try omega)
 exact⟨by simpa[World.setCell] using t.lt,(k 0 (by omega)).trans t.c0,(k 1 (by omega)).trans t.c1,(k 2 (by omega)).trans t.c2,(k 3 (by omega)).trans t.c3,(k 4 (by omega)).trans t.c4,(k 5 (by omega)).trans t.c5,
  World.cell?_setCell_same _ _ _ t.c6,fun i=>by rw[World.frozen?_setCell];exact t.fz i⟩
theorem Out7.sets {v0 v1 v2 v3 v4 v5 v6:Value} (t:Out7 w h u0 u1 u2 u3 u4 u5 u6):Out7 (w.setCells h 0 [v0,v1,v2,v3,v4,v5,v6]) h v0 v1 v2 v3 v4 v5 v6:=by
 have hs:∀j,j<7->(w.cell? ⟨h,0+j,none⟩).isSome=true:=fun j hj=>by
  match j,hj with
  | 0,_=>rw[Nat.zero_add,t.c0];rfl
  | 1,_=>rw[Nat.zero_add,t.c1];rfl
  | 2,_=>rw[Nat.zero_add,t.c2];rfl
  | 3,_=>rw[Nat.zero_add,t.c3];rfl
  | 4,_=>rw[Nat.zero_add,t.c4];rfl
  | 5,_=>rw[Nat.zero_add,t.c5];rfl
  | 6,_=>rw[Nat.zero_add,t.c6];rfl
 have key:=World.cell?_setCells_in h [v0,v1,v2,v3,v4,v5,v6] 0 w hs
 have hsz:∀(vs:List Value) (o:Nat) (w:World),(w.setCells h o vs).heap.size=w.heap.size:=by
  intro vs
  induction vs with
  | nil=>intro o w;rfl
  | cons v r ih=>intro o w;rw[World.setCells,ih];simp[World.setCell]
 refine⟨by rw[hsz];exact t.lt,?_,?_,?_,?_,?_,?_,?_,fun i=>by rw[World.frozen?_setCells];exact t.fz i⟩
 ·simpa using key 0 (by simp)
 ·simpa using key 1 (by simp)
 ·simpa using key 2 (by simp)
 ·simpa using key 3 (by simp)
 ·simpa using key 4 (by simp)
 ·simpa using key 5 (by simp)
 ·simpa using key 6 (by simp)
theorem Out7.there (t:Out7 w h u0 u1 u2 u3 u4 u5 u6):w.there h 0 7:=fun j hj=>by
 refine⟨?_,t.fz _⟩
 match j,hj with
 | 0,_=>rw[Nat.zero_add,t.c0];rfl
 | 1,_=>rw[Nat.zero_add,t.c1];rfl
 | 2,_=>rw[Nat.zero_add,t.c2];rfl
 | 3,_=>rw[Nat.zero_add,t.c3];rfl
 | 4,_=>rw[Nat.zero_add,t.c4];rfl
 | 5,_=>rw[Nat.zero_add,t.c5];rfl
 | 6,_=>rw[Nat.zero_add,t.c6];rfl
theorem grown_setCell (w:World) (h i:Nat) (u:Value):w.grownBy (w.setCell ⟨h,i,none⟩ u) (some h):=⟨rfl,rfl,rfl,by simp[World.setCell],fun k hk hne=>by
 simp only[World.setCell,Array.getElem?_modify]
 rw[if_neg (fun e=>hne (by rw[<-e]))]⟩
theorem zAx (h:Nat):∀(vs:List Value) (o:Nat) (w:World),w.grownBy (w.setCells h o vs) (some h)
 | [],o,w=>⟨rfl,rfl,rfl,Nat.le_refl _,fun _ _ _=>rfl⟩
 | v::r,o,w=>by
  have h1:=grown_setCell w h o v
  have h2:=zAx h r (o+1) (w.setCell ⟨h,o,none⟩ v)
  rw[World.setCells]
  exact⟨h2.os.trans h1.os,h2.tape.trans h1.tape,h2.output.trans h1.output,Nat.le_trans h1.size h2.size,fun k hk hne=>(h2.block k (Nat.lt_of_lt_of_le hk h1.size) hne).trans (h1.block k hk hne)⟩
theorem zAv {base:Nat} {row:Option Nat} (hg:w.grownBy w' row) (hrow:∀k,row=some k->base<=k) (hb:base<=w.heap.size):Below base w w':=
 (Below.refl _ _).grown hg hb hrow
end
section
variable {P:Program}
theorem zAz {ops:Array Oper} {o:Oper} {a:Act} {K:Act->World->Prop} {Q:Exit->Act->World->Prop} {E:Prop} (W:World) (d:Option Tmp) (hd:o.dst=d) (hgd:o.guard=none) (ty:TypeId) (x y:Operand) (ho:o.op=.store ty x y)
  (b off:Nat) (cells:Array Value) (hx:a.eval x=.pointer (some ⟨b,off,none⟩)) (hy:a.eval y=.agg cells) (ht:W.there b off cells.size) (hi:(P.info? ty).map (·.size)=some cells.size) (h1:cells.all (·.oneCell')=true)
  (h:K (a.put d undef) (W.setCells b off cells.toList)):if Region.wanted o (yielded ops a.tmps)=true then Oper.wp P o a W K Q else E:=by
 subst hd
 have hw:Region.wanted o (yielded ops a.tmps)=true:=by simp[Region.wanted,hgd]
 rw[if_pos hw]
 exact wp_store_mid ty x y ho b off cells hx hy ht hi h1 h
end
end Go.Proofs.YtcpjmgfloimfhaaGreat
namespace Go.Proofs.YtcpjmgfloimfhaaGreat
open Go Go.RowKit
def waitsOn (md:Region.Mode) (ops:Array Oper) (z i:Nat):Bool:=
 match ops[z]? with
 | some o=>o.after.any fun e=>Region.binds md e&&e.on==i
 | none=>true
theorem waitsOn_spec {md:Region.Mode} {ops:Array Oper} {z i:Nat} (h:waitsOn md ops z i=true):∀oz,ops[z]?=some oz->∃e∈oz.after,Region.binds md e=true/\e.on=i:=by
 intro oz hoz
 unfold waitsOn at h
 rw[hoz] at h
 simp only[Array.any_eq_true,Bool.and_eq_true,beq_iff_eq] at h
 obtain⟨k,hk,h1,h2⟩:=h
 exact⟨oz.after[k],Array.getElem_mem hk,h1,h2⟩
section
variable {P:Program} {ops:Array Oper} {Q:Exit->Act->World->Prop} {md:Region.Mode} {z:Nat}
variable {R:World->World->Prop} [Way R]
def wpAnyL (R:World->World->Prop) (P:Program) (md:Region.Mode) (ops:Array Oper) (Q:Exit->Act->World->Prop) (z:Nat):Nat->Array Bool->Act->World->Prop
 | 0,listed,a,w=>Region.ready md ops listed=[]/\Q .normal a w
 | fuel+1,listed,a,w=>
  (Region.ready md ops listed=[]->Q .normal a w)/\
  ∀i∈Region.ready md ops listed,wpOp P ops Q i (fun a' w'=>(i≠z->R w w')/\wpAnyL R P md ops Q z fuel (listed.setIfInBounds i true) a' w') a w
omit [Way R] in
theorem wpAny_of_growL:∀(fuel:Nat) (listed:Array Bool) (a:Act) (w:World),wpAnyL R P md ops Q z fuel listed a w->wpAny P md ops Q fuel listed a w
 | 0,_,_,_,h=>h
 | fuel+1,_,_,_,h=>⟨h.1,fun i hi=>wpOp_mono (fun a' w' h'=>wpAny_of_growL fuel _ a' w' h'.2) (h.2 i hi)⟩
theorem grow_firstL {i:Nat} {oi:Oper} {v:Value} (hi:ops[i]?=some oi) (hsel:∀(j:Nat) (o:Oper) cs b,ops[j]?=some o->o.op≠.select cs b)
  (hQ:∀c a w,Q (.panic c) (a.put oi.dst v) w->Q (.panic c) a w) (hz:∀oz,ops[z]?=some oz->∃e∈oz.after,Region.binds md e=true/\e.on=i):
  ∀(fuel:Nat) (listed:Array Bool) (a:Act) (w:World),
   (∀j oj,ops[j]?=some oj->j≠i->listed.getD j true=false->(∀e∈oj.after,Region.binds md e=true->e.on≠i)->oi.apart ops oj=true)->
   i∈Region.ready md ops listed->YieldsIf P ops (R w) oi v a->
   wpAnyL R P md ops Q z fuel (listed.setIfInBounds i true) (a.put oi.dst v) w->wpAnyL R P md ops Q z (fuel+1) listed a w:=by
 intro fuel
 induction fuel with
 | zero=>
  intro listed a w _ hr hy H
  refine⟨fun h=>(by rw[h] at hr;cases hr),fun j hj=>?_⟩
  rcases Nat.decEq j i with hne | rfl
  ·have hm:=ready_mono hj hne
   rw[H.1] at hm
   cases hm
  ·exact hy.wpOp hi (Way.refl w) ⟨fun _=>Way.refl w,H⟩
 | succ fuel ih=>
  intro listed a w hfree hr hy H
  refine⟨fun h=>(by rw[h] at hr;cases hr),fun j hj=>?_⟩
  rcases Nat.decEq j i with hne | rfl
  ·obtain ⟨hun,oj,hoj,hwait⟩:=mem_ready.1 hj
   have hno:∀e∈oj.after,Region.binds md e=true->e.on≠i:=by
    intro e he hb hon
    have h1:=hwait e he hb
    have h0:=(mem_ready.1 hr).1
    rw[hon] at h1
    rcases Nat.lt_or_ge i listed.size with hlt | hge
    ·simp [hlt] at h0 h1
     rw[h0] at h1
     cases h1
    ·simp [Array.getElem?_eq_none hge] at h1
   have hjz:j≠z:=fun e=>by
    subst e
    obtain⟨e,he,hb,hon⟩:=hz oj hoj
    exact hno e he hb hon
   have hstep:=wpOp_putIf hoj (hfree j oj hoj hne hun hno) (fun cs b=>hsel i oi cs b hi) (fun cs b=>hsel j oj cs b hoj) hQ hy (H.2 j (ready_mono hj hne))
   refine wpOp_mono (fun a' w' hh=>⟨hh.2.1,ih (listed.setIfInBounds j true) a' w' ?_ (ready_mono hr (Ne.symm hne)) (yields_later (hh.2.1 hjz) hh.1) ?_⟩) hstep
   ·intro k ok hk hki hkun hkno
    refine hfree k ok hk hki ?_ hkno
    rcases Nat.decEq j k with hjk | rfl
    ·rwa [getD_set_ne true hjk] at hkun
    ·exact hun
   ·rw [Array.setIfInBounds_comm _ _ hne]
    exact hh.2.2
  ·exact hy.wpOp hi (Way.refl w) ⟨fun _=>Way.refl w,H⟩
theorem zAl (i:Nat) (d:Option Tmp) {oi:Oper} {v:Value} {fuel:Nat} {listed:Array Bool} {a:Act} {w:World} (hi:ops[i]?=some oi) (hd:oi.dst=d)
  (hk:okB md ops listed i=true)
  (hQ:(fun c a w=>Q (.panic c) (a.put d v) w)=fun c a w=>Q (.panic c) a w) (hz:waitsOn md ops z i=true) (hw:Region.wanted oi (yielded ops a.tmps)=true) (hy:∀W,R w W->(execOp a.eval oi).run P W=.ok (.value v) W)
  (h:wpAnyL R P md ops Q z fuel (listed.setIfInBounds i true) (a.put d v) w):wpAnyL R P md ops Q z (fuel+1) listed a w:=by
 obtain⟨⟨hs,hf⟩,hr⟩:=okB_spec hk
 replace hQ:=fun c a w=>(congrFun (congrFun (congrFun hQ c) a) w).mp
 subst hd
 exact grow_firstL hi (Region.noSelect_spec hs) hQ (waitsOn_spec hz) fuel listed a w (Region.free_spec hi hf) (by simpa using hr) (.inl ⟨hw,hy⟩) h
omit [Way R] in
theorem zBe (i:Nat) {oi:Oper} {fuel:Nat} {listed:Array Bool} {a:Act} {w:World} (hi:ops[i]?=some oi) (hr:Region.ready md ops listed=[i])
  (h:∀K':Act->World->Prop,Shut (∀a' w',(i≠z->R w w')->wpAnyL R P md ops Q z fuel (listed.setIfInBounds i true) a' w'->K' a' w')->if Region.wanted oi (yielded ops a.tmps)=true then Oper.wp P oi a w K' Q else K' (a.put oi.dst undef) w):
  wpAnyL R P md ops Q z (fuel+1) listed a w:=by
 refine⟨fun h0=>(by rw[hr] at h0;cases h0),fun j hj=>?_⟩
 rw[hr] at hj
 obtain rfl:j=i:=by simpa using hj
 exact wpOp_step hi (fun K' hK=>h K' (fun a' w' hb hg=>hK a' w' ⟨hb,hg⟩))
omit [Way R] in
theorem grow_doneL {listed:Array Bool} {a:Act} {w:World} (hr:Region.ready md ops listed=[]) (h:Q .normal a w):
  ∀fuel,wpAnyL R P md ops Q z fuel listed a w
 | 0=>⟨hr,h⟩
 | _+1=>⟨fun _=>h,by rw[hr];simp⟩
theorem grow_begin_atL (B z:Nat) {id:Nat} {a:Act} {w:World} (hm:P.follows .mixedOrders=true)
  (h:wpAnyL (upAt B) P .any ops Q z ops.size (Array.replicate ops.size false) a w.drew):(Code.region id ops true).wp P Q a w:=
 wp_region_any hm (wpAny_of_growL _ _ _ _ h)
end
def waitZ (md:Region.Mode) (ops:Array Oper) (Z:List Nat) (listed:Array Bool) (i:Nat):Bool:=Z.all fun z=>listed.getD z false||waitsOn md ops z i
section
variable {P:Program} {ops:Array Oper} {Q:Exit->Act->World->Prop} {md:Region.Mode} {Z:List Nat}
variable {R:World->World->Prop} [Way R]
def wpAnyZ (R:World->World->Prop) (P:Program) (md:Region.Mode) (ops:Array Oper) (Q:Exit->Act->World->Prop) (Z:List Nat):Nat->Array Bool->Act->World->Prop
 | 0,listed,a,w=>Region.ready md ops listed=[]/\Q .normal a w
 | fuel+1,listed,a,w=>
  (Region.ready md ops listed=[]->Q .normal a w)/\
  ∀i∈Region.ready md ops listed,wpOp P ops Q i (fun a' w'=>(i ∉ Z->R w w')/\wpAnyZ R P md ops Q Z fuel (listed.setIfInBounds i true) a' w') a w
omit [Way R] in
theorem wpAny_of_growZ:∀(fuel:Nat) (listed:Array Bool) (a:Act) (w:World),wpAnyZ R P md ops Q Z fuel listed a w->wpAny P md ops Q fuel listed a w
 | 0,_,_,_,h=>h
 | fuel+1,_,_,_,h=>⟨h.1,fun i hi=>wpOp_mono (fun a' w' h'=>wpAny_of_growZ fuel _ a' w' h'.2) (h.2 i hi)⟩
theorem grow_firstZ {S:World->World->Prop} (hS0:∀w,S w w) {i:Nat} {oi:Oper} {v:Value} (hi:ops[i]?=some oi) (hsel:∀(j:Nat) (o:Oper) cs b,ops[j]?=some o->o.op≠.select cs b)
  (hQ:∀c a w,Q (.panic c) (a.put oi.dst v) w->Q (.panic c) a w):
  ∀(fuel:Nat) (listed:Array Bool) (a:Act) (w:World),
   ((∀w w' W,S w' W->S w W)\/((∀w w' W,R w w'->S w' W->S w W)/\waitZ md ops Z listed i=true))->
   (∀j oj,ops[j]?=some oj->j≠i->listed.getD j true=false->(∀e∈oj.after,Region.binds md e=true->e.on≠i)->oi.apart ops oj=true)->
   i∈Region.ready md ops listed->YieldsIf P ops (S w) oi v a->
   wpAnyZ R P md ops Q Z fuel (listed.setIfInBounds i true) (a.put oi.dst v) w->wpAnyZ R P md ops Q Z (fuel+1) listed a w:=by
 intro fuel
 induction fuel with
 | zero=>
  intro listed a w _ _ hr hy H
  refine⟨fun h=>(by rw[h] at hr;cases hr),fun j hj=>?_⟩
  rcases Nat.decEq j i with hne | rfl
  ·have hm:=ready_mono hj hne
   rw[H.1] at hm
   cases hm
  ·exact hy.wpOp hi (hS0 w) ⟨fun _=>Way.refl w,H⟩
 | succ fuel ih=>
  intro listed a w hS hfree hr hy H
  refine⟨fun h=>(by rw[h] at hr;cases hr),fun j hj=>?_⟩
  rcases Nat.decEq j i with hne | rfl
  ·obtain ⟨hun,oj,hoj,hwait⟩:=mem_ready.1 hj
   have hno:∀e∈oj.after,Region.binds md e=true->e.on≠i:=by
    intro e he hb hon
    have h1:=hwait e he hb
    have h0:=(mem_ready.1 hr).1
    rw[hon] at h1
    rcases Nat.lt_or_ge i listed.size with hlt | hge
    ·simp [hlt] at h0 h1
     rw[h0] at h1
     cases h1
    ·simp [Array.getElem?_eq_none hge] at h1
   have hjl:listed.getD j false=false:=by
    rcases Nat.lt_or_ge j listed.size with hlt | hge
    ·simp [hlt] at hun ⊢;exact hun
    ·simp [Array.getElem?_eq_none hge]
   have hstep:=wpOp_putIf hoj (hfree j oj hoj hne hun hno) (fun cs b=>hsel i oi cs b hi) (fun cs b=>hsel j oj cs b hoj) hQ hy (H.2 j (ready_mono hj hne))
   refine wpOp_mono (fun a' w' hh=>⟨hh.2.1,ih (listed.setIfInBounds j true) a' w' ?_ ?_ (ready_mono hr (Ne.symm hne)) ?_ ?_⟩) hstep
   ·rcases hS with hS | ⟨hS,hw⟩
    ·exact .inl hS
    ·refine .inr ⟨hS,?_⟩
     unfold waitZ at hw ⊢
     rw[List.all_eq_true] at hw ⊢
     intro z hz
     have:=hw z hz
     simp only[Bool.or_eq_true] at this ⊢
     rcases this with h | h
     ·left
      rcases Nat.decEq j z with hjz | rfl
      ·simp only[Array.getD_eq_getD_getElem?,Array.getElem?_setIfInBounds] at h ⊢
       rw[if_neg hjz];exact h
      ·rw [h] at hjl;cases hjl
     ·exact .inr h
   ·intro k ok hk hki hkun hkno
    refine hfree k ok hk hki ?_ hkno
    rcases Nat.decEq j k with hjk | rfl
    ·rwa [getD_set_ne true hjk] at hkun
    ·exact hun
   ·refine hh.1.imp (fun ⟨x,y⟩=>⟨x,fun W hW=>y W ?_⟩) id
    rcases hS with hS | ⟨hS,hw⟩
    ·exact hS _ _ _ hW
    ·refine hS _ _ _ (hh.2.1 fun hz=>?_) hW
     unfold waitZ at hw
     rw[List.all_eq_true] at hw
     have:=hw j hz
     rw[hjl,Bool.false_or] at this
     obtain⟨e,he,hb,hon⟩:=waitsOn_spec this oj hoj
     exact hno e he hb hon
   ·rw [Array.setIfInBounds_comm _ _ hne]
    exact hh.2.2
  ·exact hy.wpOp hi (hS0 w) ⟨fun _=>Way.refl w,H⟩
theorem zAm (i:Nat) (d:Option Tmp) {oi:Oper} {v:Value} {fuel:Nat} {listed:Array Bool} {a:Act} {w:World} (hi:ops[i]?=some oi) (hd:oi.dst=d)
  (hk:okB md ops listed i=true)
  (hQ:(fun c a w=>Q (.panic c) (a.put d v) w)=fun c a w=>Q (.panic c) a w) (hz:waitZ md ops Z listed i=true) (hw:Region.wanted oi (yielded ops a.tmps)=true) (hy:∀W,R w W->(execOp a.eval oi).run P W=.ok (.value v) W)
  (h:wpAnyZ R P md ops Q Z fuel (listed.setIfInBounds i true) (a.put d v) w):wpAnyZ R P md ops Q Z (fuel+1) listed a w:=by
 obtain⟨⟨hs,hf⟩,hr⟩:=okB_spec hk
 replace hQ:=fun c a w=>(congrFun (congrFun (congrFun hQ c) a) w).mp
 subst hd
 exact grow_firstZ (S:=R) Way.refl hi (Region.noSelect_spec hs) hQ fuel listed a w (.inr ⟨fun _ _ _ h k=>Way.trans h k,hz⟩) (Region.free_spec hi hf) (by simpa using hr) (.inl ⟨hw,hy⟩) h
theorem zAe (i:Nat) (d:Option Tmp) {oi:Oper} {v:Value} {fuel:Nat} {listed:Array Bool} {a:Act} {w:World} (hi:ops[i]?=some oi) (hd:oi.dst=d)
  (hk:okB md ops listed i=true)
  (hQ:(fun c a w=>Q (.panic c) (a.put d v) w)=fun c a w=>Q (.panic c) a w) (hw:Region.wanted oi (yielded ops a.tmps)=true) (hy:∀W,(execOp a.eval oi).run P W=.ok (.value v) W)
  (h:wpAnyZ R P md ops Q Z fuel (listed.setIfInBounds i true) (a.put d v) w):wpAnyZ R P md ops Q Z (fuel+1) listed a w:=by
 obtain⟨⟨hs,hf⟩,hr⟩:=okB_spec hk
 replace hQ:=fun c a w=>(congrFun (congrFun (congrFun hQ c) a) w).mp
 subst hd
 exact grow_firstZ (S:=fun _ _=>True) (fun _=>trivial) hi (Region.noSelect_spec hs) hQ fuel listed a w (.inl fun _ _ _ _=>trivial) (Region.free_spec hi hf) (by simpa using hr) (.inl ⟨hw,fun W _=>hy W⟩) h
omit [Way R] in
theorem zAf (i:Nat) {oi:Oper} {fuel:Nat} {listed:Array Bool} {a:Act} {w:World} (hi:ops[i]?=some oi) (hr:Region.ready md ops listed=[i])
  (h:∀K':Act->World->Prop,Shut (∀a' w',(i ∉ Z->R w w')->wpAnyZ R P md ops Q Z fuel (listed.setIfInBounds i true) a' w'->K' a' w')->if Region.wanted oi (yielded ops a.tmps)=true then Oper.wp P oi a w K' Q else K' (a.put oi.dst undef) w):
  wpAnyZ R P md ops Q Z (fuel+1) listed a w:=by
 refine⟨fun h0=>(by rw[hr] at h0;cases h0),fun j hj=>?_⟩
 rw[hr] at hj
 obtain rfl:j=i:=by simpa using hj
 exact wpOp_step hi (fun K' hK=>h K' (fun a' w' hb hg=>hK a' w' ⟨hb,hg⟩))
omit [Way R] in
theorem zAj {listed:Array Bool} {a:Act} {w:World} (hr:Region.ready md ops listed=[]) (h:Q .normal a w):
  ∀fuel,wpAnyZ R P md ops Q Z fuel listed a w
 | 0=>⟨hr,h⟩
 | _+1=>⟨fun _=>h,by rw[hr];simp⟩
def AllZ (R:World->World->Prop) (P:Program) (md:Region.Mode) (ops:Array Oper) (Q:Exit->Act->World->Prop) (Z:List Nat) (fuel:Nat) (listed:Array Bool) (a:Act) (w:World) (rs:List Nat):Prop:=
 ∀i∈rs,wpOp P ops Q i (fun a' w'=>(i ∉ Z->R w w')/\wpAnyZ R P md ops Q Z fuel (listed.setIfInBounds i true) a' w') a w
omit [Way R] in
theorem AllZ.nil {fuel:Nat} {listed:Array Bool} {a:Act} {w:World}:AllZ R P md ops Q Z fuel listed a w []:=fun _ h=>by cases h
omit [Way R] in
theorem AllZ.cons {fuel:Nat} {listed:Array Bool} {a:Act} {w:World} {i:Nat} {oi:Oper} {rs:List Nat} (hi:ops[i]?=some oi)
  (h:∀K':Act->World->Prop,Shut (∀a' w',(i ∉ Z->R w w')->wpAnyZ R P md ops Q Z fuel (listed.setIfInBounds i true) a' w'->K' a' w')->if Region.wanted oi (yielded ops a.tmps)=true then Oper.wp P oi a w K' Q else K' (a.put oi.dst undef) w)
  (hs:AllZ R P md ops Q Z fuel listed a w rs):AllZ R P md ops Q Z fuel listed a w (i::rs):=fun j hj=>by
 rcases List.mem_cons.1 hj with rfl | hj
 ·exact wpOp_step hi (fun K' hK=>h K' (fun a' w' hb hg=>hK a' w' ⟨hb,hg⟩))
 ·exact hs j hj
omit [Way R] in
theorem zBp (rs:List Nat) {fuel:Nat} {listed:Array Bool} {a:Act} {w:World} (hr:Region.ready md ops listed=rs) (hne:rs≠[]) (h:AllZ R P md ops Q Z fuel listed a w rs):
  wpAnyZ R P md ops Q Z (fuel+1) listed a w:=by
 refine⟨fun h0=>absurd (hr ▸ h0) hne,fun j hj=>?_⟩
 rw[hr] at hj
 exact h j hj
theorem zAp (R:World->World->Prop) [Way R] (Z:List Nat) {id:Nat} {a:Act} {w:World} (hm:P.follows .mixedOrders=true)
  (h:wpAnyZ R P .any ops Q Z ops.size (Array.replicate ops.size false) a w.drew):(Code.region id ops true).wp P Q a w:=
 wp_region_any hm (wpAny_of_growZ _ _ _ _ h)
end
end Go.Proofs.YtcpjmgfloimfhaaGreat
