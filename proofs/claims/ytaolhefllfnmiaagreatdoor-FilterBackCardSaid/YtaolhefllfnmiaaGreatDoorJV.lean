/- Several texts in one: JKeep, JWriteV, JWriteP, JWriteT, JWriteR, JPrint, JSame, JSameT, KMath. By an AI agent. -/
import Derived.Test.YtaolhefllfnmiaaGreatDoorJX
import Derived.Test.YtaolhefllfnmiaaGreatDoorJZ
import Derived.Test.YtaolhefllfnmiaaGreatDoorHY
import Derived.Test.YtaolhefllfnmiaaGreatDoorHU
import Derived.Test.YtaolhefllfnmiaaGreatDoorShelf
import Derived.Test.YtaolhefllfnmiaaGreatDoorJW
set_option maxRecDepth 100000
set_option maxHeartbeats 64000000
namespace Go.Proofs.YtaolhefllfnmiaaGreatDoor
open Go.RowKit
set_option linter.unusedVariables false
structure KeepT (w w':World):Prop where
 size:w.heap.size≤w'.heap.size
 same:∀g,g<w.heap.size→(∀cs fr,w.heap[g]?≠some (.cells cs 5 fr))→w'.heap[g]?=w.heap[g]?
theorem KeepT.refl (w:World):KeepT w w:=⟨Nat.le_refl _,fun _ _ _=>rfl⟩
theorem KeepT.trans {w w1 w2:World} (h:KeepT w w1) (h':KeepT w1 w2):KeepT w w2:=
 ⟨Nat.le_trans h.size h'.size,fun g hg hn=>by
  have e:=h.same g hg hn
  rw[h'.same g (Nat.lt_of_lt_of_le hg h.size) (by rw[e];exact hn),e]⟩
theorem KeepT.alloc (w:World) (o:Obj):KeepT w (w.alloc o):=⟨by simp,fun g hg _=>heap_alloc_old w o hg⟩
theorem KeepT.drew (w:World):KeepT w w.drew:=⟨Nat.le_refl _,fun _ _ _=>rfl⟩
theorem KeepT.own {w w':World} {base n:Nat} {v:Value} {xs:List Value} (hown:w.ownsRow base 5 1 v n xs) (hg:w.grownBy w' v.ownBlock):KeepT w w':=by
 refine⟨hg.size,fun g hlt hn=>?_⟩
 refine hg.block g hlt (fun e=>?_)
 rcases hown.2 with⟨rfl,_⟩ | ⟨g',cap,cur,rfl,_,hh,_⟩
 ·cases e
 ·have:g'=g:=by simpa[Value.ownBlock] using e.symm
  subst this
  exact hn _ _ hh
structure BoxF (w:World) (b:Nat) (k:Int) (a v f l:ByteArray) (A:Option Addr) (m c:Nat) (D:Option Addr) (n d:Nat):Prop where
 heap:w.heap[b]?=some (.cells #[.int .i64 k,.string a,.string v,.string f,.string l,.slice A m c,.slice D n d] 33)
 lt:b<w.heap.size
section
variable {w w':World} {b:Nat} {k:Int} {a v f l:ByteArray} {A D:Option Addr} {m c n d:Nat}
theorem BoxF.new (w:World) (k:Int) (a v f l:ByteArray) (A:Option Addr) (m c:Nat) (D:Option Addr) (n d:Nat):
  BoxF (w.alloc (.cells #[.int .i64 k,.string a,.string v,.string f,.string l,.slice A m c,.slice D n d] 33)) w.heap.size k a v f l A m c D n d:=
 ⟨heap_alloc_new w _,by simp⟩
theorem BoxF.keep (h:BoxF w b k a v f l A m c D n d) (hk:KeepT w w'):BoxF w' b k a v f l A m c D n d:=
 ⟨(hk.same b h.lt (by intro cs fr e;rw[h.heap] at e;have:=Option.some.inj e;simp at this)).trans h.heap,Nat.lt_of_lt_of_le h.lt hk.size⟩
theorem BoxF.box (h:BoxF w b k a v f l A m c D n d):Box7 w b k a v f l A m c D n d:=
 ⟨h.lt,by simp[World.cell?,h.heap],by simp[World.cell?,h.heap],by simp[World.cell?,h.heap],by simp[World.cell?,h.heap],by simp[World.cell?,h.heap],by simp[World.cell?,h.heap],by simp[World.cell?,h.heap]⟩
end
theorem app8k {ops:Array Oper} {rest:List Oper} {o:Oper} {a:Act} {Q:Exit→Act→World→Prop} (W:World) (hgd:o.guard=none) (s x:Operand)
  (ho:o.op=.call { callee:=.builtin .append,args:=#[s,x],argTypes:=#[54,54] })
  (base:Nat) (v:Value) (n:Nat) (xs:List UInt8) (hs:a.eval s=v) (hown:W.ownsRow base 5 1 v n (bys xs))
  (B:Nat) (A:Option Addr) (m c:Nat) (l:List UInt8) (hx:a.eval x=.slice A m c) (hr:Has W B 1 A m (bys l)) (ys:List UInt8) (hys:Hid (xs++l=ys)) (hlen:Hid (n+m=ys.length))
  (hb:n+m≤140737488355328) (hbase:base≤W.heap.size)
  (h:∀v' w',w'.ownsRow base 5 1 v' ys.length (bys ys)→Below base W w'→KeepT W w'→wpList Tryz.prog ops Q rest (a.put o.dst v') w'):
  wpList Tryz.prog ops Q (o::rest) a W:=
 app8g W hgd s x ho base v n xs hs hown B A m c l hx hr ys hys hlen hb hbase fun v' w' h1 h2 h3=>h v' w' h1 h2 (KeepT.own hown h3)
theorem app8t {ops:Array Oper} {rest:List Oper} {o:Oper} {a:Act} {Q:Exit→Act→World→Prop} (W:World) (hgd:o.guard=none) (s x:Operand)
  (ho:o.op=.call { callee:=.builtin .append,args:=#[s,x],argTypes:=#[54,9] })
  (base:Nat) (v:Value) (n:Nat) (xs:List UInt8) (hs:a.eval s=v) (hown:W.ownsRow base 5 1 v n (bys xs)) (t:ByteArray) (hx:a.eval x=.string t) (ys:List UInt8) (hys:Hid (xs++t.data.toList=ys)) (hlen:Hid (n+t.size=ys.length))
  (hb:n+t.size≤140737488355328) (hbase:base≤W.heap.size)
  (h:∀v' w',w'.ownsRow base 5 1 v' ys.length (bys ys)→Below base W w'→KeepT W w'→wpList Tryz.prog ops Q rest (a.put o.dst v') w'):
  wpList Tryz.prog ops Q (o::rest) a W:=
 app8s W hgd s x ho base v n xs hs hown t hx ys hys hlen hb hbase fun v' w' h1 h2 h3=>h v' w' h1 h2 (KeepT.own hown h3)
end Go.Proofs.YtaolhefllfnmiaaGreatDoor
namespace Go.Proofs.YtaolhefllfnmiaaGreatDoor
open Go.RowKit
set_option linter.unusedVariables false
theorem esc_take {l:List UInt8} {i:Nat} {c:UInt8} (h:l[i]?=some c):FT.esc (l.take (i+1))=FT.esc (l.take i)++FT.esc1 c:=by
 unfold FT.esc
 rw[List.take_add_one,h]
 simp
theorem esc_len (l:List UInt8):(FT.esc l).length≤3*l.length:=by
 unfold FT.esc
 induction l with
 | nil=>simp
 | cons a r ih=>
  have:(FT.esc1 a).length≤3:=by unfold FT.esc1;split<;>simp
  simp only[List.flatMap_cons,List.length_append,List.length_cons] at ih ⊢
  omega
theorem jappendv_any (s:ByteArray) (hs:s.size≤1000000) (v0:Value) (p:List UInt8) (hp:p.length≤100000000) (w:World) (base:Nat) (hbase:base≤w.heap.size) (hown:w.ownsRow base 5 1 v0 p.length (bys p)):
  Calls Tryz.prog 53 #[v0,.string s] w fun e w'=>∃v',e=.returned v'∧w'.ownsRow base 5 1 v' (p++FT.esc s.data.toList).length (bys (p++FT.esc s.data.toList))∧Below base w w'∧KeepT w w':=by
 have hL:=hide (Lib.size_eq s)
 have hat:∀(i:Nat) (hi:i<s.size),s.data.toList[i]?=some s[i]:=fun i hi=>Lib.data_getElem? s i hi
 generalize hl:s.data.toList=l at *
 replace hl:=hide hl
 replace hat:=hide hat
 go_enter Tryz.func53,Tryz.ntmps53
 go_wp2
 go_loopg [0,9] s.size (fun k s0 s9 wx=>∃(i:Nat) (o:List UInt8),i+k=s.size∧s9=.int .i64 (i:Int)∧Hid (o=FT.esc (l.take i))∧wx.ownsRow base 5 1 s0 (p++o).length (bys (p++o))∧Below base w wx∧KeepT w wx)
 case atStart=>exact⟨0,[],by omega,rfl,hide rfl,by simpa using hown,Below.refl _ _,KeepT.refl _⟩
 case round=>
  obtain⟨i,o,hig,rfl,ho,hor,hbr,hkr⟩:=hrel
  clear hown
  cases gk with
  | zero=>
   obtain rfl:i=s.size:=by omega
   have hiz:¬((s.size:Int)<(s.size:Int)):=by omega
   have hR:Hid (o=FT.esc l):=hide (by
    have:=ho.out
    rw[List.take_of_length_le (by rw[←hL.out];exact Nat.le_refl _)] at this
    exact this)
   rw[hR.out] at hor
   clear ho
   go_wp2
   go_ret
   exact⟨_,rfl,by rw[←List.length_append];exact hor,hbr,hkr⟩
  | succ k=>
   have hi:i<s.size:=by omega
   have hiz:(i:Int)<(s.size:Int):=by omega
   obtain⟨c,hx⟩:∃c:UInt8,s[i]'hi=c:=⟨_,rfl⟩
   have hxl:l[i]?=some c:=by rw[hat.out i hi,hx]
   have hlen:Hid ((p++o).length≤103000000):=hide (by
    have h1:=congrArg List.length ho.out
    have h2:=esc_len (l.take i)
    have h3:=hL.out
    rw[List.length_take] at h2
    rw[List.length_append]
    omega)
   have hne:=fun w=>jneeds_any c w
   have hnx:Hid (∀x,FT.esc1 c=x→o++x=FT.esc (l.take (i+1))):=hide (fun x h=>by rw[esc_take hxl,h,ho.out])
   have hap:∀x:List UInt8,p++o++x=p++(o++x):=fun x=>List.append_assoc _ _ _
   clear hxl ho
   cases hm:FT.marked c with
   | false=>
    rw[hm] at hne
    have hnext:=hide (hnx.out [c] (by simp[FT.esc1,hm]))
    clear hnx hm
    have hone:(wr.alloc (.cells #[.int .u8 (c.toNat:Int)] 5)).ownsRow wr.heap.size 5 1 (.slice (some ⟨wr.heap.size,0,none⟩) 1 1) 1 (bys [c]):=one8 wr c
    have hH:=Has.own hone
    have hor1:=hor.alloc (.cells #[.int .u8 (c.toNat:Int)] 5)
    have hbr1:=hbr.alloc (Nat.le_trans hbase hbr.size) (.cells #[.int .u8 (c.toNat:Int)] 5)
    have hk1:=hkr.trans (KeepT.alloc wr (.cells #[.int .u8 (c.toNat:Int)] 5))
    have hs1:=Nat.le_trans hbase hbr1.size
    clear hone hor hbr hkr
    go_wp2_with (first
     |(go_at_call 81;refine (hne _).mono ?_;rintro e w' ⟨rfl,rfl⟩)
     |(at_builtin;go_must (refine app8k _ rfl (.tmp 26) (.tmp 28) rfl base _ _ (p++o) rfl hor1 _ _ 1 1 [c] rfl hH _ (hide rfl) (hide (by simp only[List.length_append,List.length_singleton])) (by have:=hlen.out;omega) hs1 ?_)))
    intro v' w3 hown3 hb3 hk3
    have hb4:=hbr1.trans hb3
    have hk4:=hk1.trans hk3
    clear hor1 hbr1 hs1 hH hb3 hk1 hk3
    go_wp2
    go_roundg k
    case measure=>omega
    case rel=>exact⟨i+1,o++[c],by omega,by go_num,hnext,by simpa[hap,Nat.add_assoc] using hown3,hb4,hk4⟩
   | true=>
    rw[hm] at hne
    have hnext:=hide (hnx.out _ (by unfold FT.esc1;rw[if_pos hm]))
    have hlt:=c.toNat_lt
    have hq:=hex_at (c.toNat/16) (by omega)
    have hr:=hex_at (c.toNat % 16) (by omega)
    have sh:=shr_at c
    have an:=and_at c
    have e1:hexD (c.toNat/16)=FT.dig (c.toNat/16):=rfl
    have e2:hexD (c.toNat % 16)=FT.dig (c.toNat % 16):=rfl
    rw[e1] at hq
    rw[e2] at hr
    clear e1 e2
    generalize FT.dig (c.toNat/16)=d1 at *
    generalize FT.dig (c.toNat % 16)=d2 at *
    generalize c.toNat/16=q at *
    generalize c.toNat % 16=r at *
    have HB:=hbr.size
    clear hnx hm hlt
    go_wp2_with (first
     |(go_at_call 81;refine (hne _).mono ?_;rintro e wq ⟨rfl,hw⟩;rw[hw];clear hw wq)
     | fail)
    refine grow_begin_at base (by kernel_rfl) ?_
    have hbr0:Below base w wr.drew:=hbr.trans ((Below.refl _ _).drew)
    have hor0:=own_below hor (Below.refl wr.heap.size wr).drew
    have hk0:=hkr.trans (KeepT.drew wr)
    have hs0:=Nat.le_trans hbase hbr0.size
    clear hor hbr HB hkr
    generalize wr.drew=a0 at *
    refine grow_take 0 (some 17) (v:=?va0) rfl rfl (by kernel_rfl) (by kernel_rfl) (by kernel_rfl) (fun _ _ _ h=>h) (by rfl) (fun W hW=>?ya0) ?_
    case ya0=>
     go_simp<;>with_reducible rfl
    simp only[Act.put,List.setIfInBounds_toArray,List.set_cons_zero,List.set_cons_succ]
    refine grow_take 1 (some 18) (v:=?va1) rfl rfl (by kernel_rfl) (by kernel_rfl) (by kernel_rfl) (fun _ _ _ h=>h) (by rfl) (fun W hW=>?ya1) ?_
    case ya1=>
     go_simp<;>with_reducible rfl
    simp only[Act.put,List.setIfInBounds_toArray,List.set_cons_zero,List.set_cons_succ]
    refine grow_take 2 (some 19) (v:=?va2) rfl rfl (by kernel_rfl) (by kernel_rfl) (by kernel_rfl) (fun _ _ _ h=>h) (by rfl) (fun W hW=>?ya2) ?_
    case ya2=>
     go_simp<;>with_reducible rfl
    simp only[Act.put,List.setIfInBounds_toArray,List.set_cons_zero,List.set_cons_succ]
    refine grow_take 3 (some 20) (v:=?va3) rfl rfl (by kernel_rfl) (by kernel_rfl) (by kernel_rfl) (fun _ _ _ h=>h) (by rfl) (fun W hW=>?ya3) ?_
    case ya3=>
     have h1:=hq W
     go_simp<;>with_reducible rfl
    simp only[Act.put,List.setIfInBounds_toArray,List.set_cons_zero,List.set_cons_succ]
    refine grow_take 4 (some 21) (v:=?va4) rfl rfl (by kernel_rfl) (by kernel_rfl) (by kernel_rfl) (fun _ _ _ h=>h) (by rfl) (fun W hW=>?ya4) ?_
    case ya4=>
     go_simp<;>with_reducible rfl
    simp only[Act.put,List.setIfInBounds_toArray,List.set_cons_zero,List.set_cons_succ]
    refine grow_take 5 (some 22) (v:=?va5) rfl rfl (by kernel_rfl) (by kernel_rfl) (by kernel_rfl) (fun _ _ _ h=>h) (by rfl) (fun W hW=>?ya5) ?_
    case ya5=>
     go_simp<;>with_reducible rfl
    simp only[Act.put,List.setIfInBounds_toArray,List.set_cons_zero,List.set_cons_succ]
    refine grow_take 6 (some 23) (v:=?va6) rfl rfl (by kernel_rfl) (by kernel_rfl) (by kernel_rfl) (fun _ _ _ h=>h) (by rfl) (fun W hW=>?ya6) ?_
    case ya6=>
     have h1:=hr W
     go_simp<;>with_reducible rfl
    simp only[Act.put,List.setIfInBounds_toArray,List.set_cons_zero,List.set_cons_succ]
    refine grow_only 7 rfl (by kernel_rfl) (fun K hK=>?_)
    go_simp
    have hb1:Below base a0 (a0.alloc (.cells #[.int .u8 92,.int .u8 (d1.toNat:Int),.int .u8 (d2.toNat:Int)] 5)):=(Below.refl _ _).alloc hs0 _
    have hone:(a0.alloc (.cells #[.int .u8 92,.int .u8 (d1.toNat:Int),.int .u8 (d2.toNat:Int)] 5)).ownsRow a0.heap.size 5 1 (.slice (some ⟨a0.heap.size,0,none⟩) 3 3) 3 (bys [92,d1,d2]):=lit3 a0 92 d1 d2
    have hH:=Has.own hone
    have hor1:=hor0.alloc (.cells #[.int .u8 92,.int .u8 (d1.toNat:Int),.int .u8 (d2.toNat:Int)] 5)
    have hba:=hbr0.trans hb1
    have hs1:=Nat.le_trans hbase hba.size
    have hk1:=hk0.trans (KeepT.alloc a0 (.cells #[.int .u8 92,.int .u8 (d1.toNat:Int),.int .u8 (d2.toNat:Int)] 5))
    clear hone hor0 hbr0 hk0
    refine hK.out _ _ hb1 ?_
    clear hK K hb1
    try simp only[Act.put,List.setIfInBounds_toArray,List.set_cons_zero,List.set_cons_succ]
    refine grow_only 8 rfl (by kernel_rfl) (fun K hK=>?_)
    refine step8 _ (some 25) rfl rfl (.tmp 17) (.tmp 24) rfl base _ _ (p++o) rfl hor1 _ _ 3 3 [92,d1,d2] rfl hH (by have:=hlen.out;omega) hs1 ?_
    intro v' w3 hown3 hb3 _ hgr
    have hb4:=hba.trans hb3
    have hk4:=hk1.trans (KeepT.own hor1 hgr)
    refine hK.out _ _ hb3 ?_
    clear hK K hor1 hba hs1 hH hb3 hgr hk1
    try simp only[Act.put,List.setIfInBounds_toArray,List.set_cons_zero,List.set_cons_succ]
    refine grow_take 9 (some 0) (v:=?va9) rfl rfl (by kernel_rfl) (by kernel_rfl) (by kernel_rfl) (fun _ _ _ h=>h) (by rfl) (fun W hW=>?ya9) ?_
    case ya9=>
     go_simp<;>with_reducible rfl
    simp only[Act.put,List.setIfInBounds_toArray,List.set_cons_zero]
    refine grow_done (by kernel_rfl) ?_ _
    go_wp2
    go_roundg k
    case measure=>omega
    case rel=>exact⟨i+1,o++[92,d1,d2],by omega,by go_num,hnext,by simpa[hap,Nat.add_assoc] using hown3,hb4,hk4⟩
end Go.Proofs.YtaolhefllfnmiaaGreatDoor
namespace Go.Proofs.YtaolhefllfnmiaaGreatDoor
open Go.RowKit
set_option linter.unusedVariables false
def Wrote (w:World) (base:Nat) (ys:List UInt8) (e:Ending) (w':World):Prop:=
 ∃v',e=.returned v'∧w'.ownsRow base 5 1 v' ys.length (bys ys)∧Below base w w'∧KeepT w w'
theorem jappendx_any (x:List UInt8) (hx:x.length≤1000000) (s:ByteArray) (hs:txt x=s) (v0:Value) (p:List UInt8) (hp:p.length≤100000000) (w:World) (base:Nat) (hbase:base≤w.heap.size) (hown:w.ownsRow base 5 1 v0 p.length (bys p)) (ys:List UInt8) (hys:p++FT.esc x=ys):
  Calls Tryz.prog 53 #[v0,.string s] w (Wrote w base ys):=by
 subst hs hys
 have h:=jappendv_any (txt x) (by rw[txt_size];exact hx) v0 p hp w base hbase hown
 rw[show (txt x).data.toList=x from by simp[txt]] at h
 exact h
def FT.pieceT (f:List UInt8) (any:List (List UInt8)) (l:List UInt8):List UInt8:=FT.esc f++any.flatMap (fun x=>42::FT.esc x)++42::FT.esc l
theorem FT.pieceT_is (f l:List UInt8):∀any:List (List UInt8),FT.pieceT f any l=FT.esc f++[42]++any.flatMap (fun x=>FT.esc x++[42])++FT.esc l:=by
 have key:∀any:List (List UInt8),any.flatMap (fun x=>42::FT.esc x)++[42]=[42]++any.flatMap (fun x=>FT.esc x++[42]):=fun any=>by
  induction any with
  | nil=>rfl
  | cons a r ih=>
   simp only[List.flatMap_cons,List.append_assoc,ih]
   simp
 intro any
 have e:(42:UInt8)::FT.esc l=[42]++FT.esc l:=rfl
 rw[FT.pieceT,e,←List.append_assoc,List.append_assoc (FT.esc f),key any]
 simp
theorem jappendp_any (k:Int) (sa sv sf sl:ByteArray) (f l:List UInt8) (any:List (List UInt8)) (hsf:txt f=sf) (hsl:txt l=sl) (A:Option Addr) (m c:Nat) (D:Option Addr) (n d:Nat) (hm:any.length=m) (hml:m≤maxLen)
  (v0:Value) (p:List UInt8) (w:World) (base:Nat) (hbase:base≤w.heap.size) (hown:w.ownsRow base 5 1 v0 p.length (bys p)) (hA:Has w base 1 A m (strs any))
  (hf:f.length≤1000) (hl:l.length≤1000) (hx:∀x∈any,x.length≤1000) (ys:List UInt8) (hys:p++FT.pieceT f any l=ys) (hlen:ys.length≤90000000):
  Calls Tryz.prog 52 #[v0,.agg #[.int .i64 k,.string sa,.string sv,.string sf,.string sl,.slice A m c,.slice D n d]] w (Wrote w base ys):=by
 have hX:=BoxF.new w k sa sv sf sl A m c D n d
 have hb0:Below base w (w.alloc (.cells #[.int .i64 k,.string sa,.string sv,.string sf,.string sl,.slice A m c,.slice D n d] 33)):=(Below.refl _ _).alloc hbase _
 have hk0:=KeepT.alloc w (.cells #[.int .i64 k,.string sa,.string sv,.string sf,.string sl,.slice A m c,.slice D n d] 33)
 have ho0:=hown.alloc (.cells #[.int .i64 k,.string sa,.string sv,.string sf,.string sl,.slice A m c,.slice D n d] 33)
 have hs0:=Nat.le_trans hbase hb0.size
 have HX:=hide hX
 obtain⟨_,c0,c1,c2,c3,c4,c5,c6⟩:=hX.box
 unfold maxLen at hml
 have hmi:(m:Int)≤9223372036854775807:=by omega
 have hle:∀j,(p++FT.esc f++(any.take j).flatMap (fun x=>42::FT.esc x)).length≤90000000:=fun j=>by
  have h1:=FT.flat_le (fun x=>42::FT.esc x) any j
  have h2:=congrArg List.length hys
  unfold FT.pieceT at h2
  simp only[List.length_append] at h1 h2 ⊢
  omega
 have h0:p.length≤90000000:=by have:=hle 0;simp only[List.length_append] at this;omega
 have HLE:=hide hle
 have HA:=hide hA
 have HX1:=hide hx
 have HM:=hide hm
 have HY:=hide hys
 have Hl:=hide hl
 have Hsl:=hide hsl
 have hcf:=jappendx_any f (by omega) sf hsf v0 p (by omega) _ base hs0 ho0 _ rfl
 clear hA hx hm hys hle hX hl hsl hown hf hsf ho0
 go_enter Tryz.func52,Tryz.ntmps52
 go_wp2_with (go_at_call 53;fail)
 refine hcf.mono ?_
 rintro e w2 ⟨v2,rfl,ho2,hb2,hk2⟩
 clear hcf c0 c1 c2 c3 c4 c5 c6
 have hX2:=HX.out.keep hk2
 have hb3:=hb0.trans hb2
 have hk3:=hk0.trans hk2
 have HX2:=hide hX2
 obtain⟨_,c0,c1,c2,c3,c4,c5,c6⟩:=hX2.box
 clear hb0 hk0 hb2 hk2 HX hs0
 go_wp2
 go_loopg [0,14] m (fun r s0 s14 wx=>∃(j:Nat) (o:List UInt8),j+r=m∧s14=.int .i64 (j:Int)∧Hid (o=p++FT.esc f++(any.take j).flatMap (fun x=>42::FT.esc x))∧wx.ownsRow base 5 1 s0 o.length (bys o)∧Hid (Below base w wx∧KeepT w wx∧BoxF wx w.heap.size k sa sv sf sl A m c D n d))
 case atStart=>exact⟨0,_,by omega,rfl,hide (by simp),ho2,hide ⟨hb3,hk3,HX2.out⟩⟩
 case round=>
  obtain⟨j,o,hjg,rfl,hpre,hor,hbr⟩:=hrel
  obtain⟨hb2,hk2,hX2⟩:=hbr.out
  clear HX2 hb3 hk3 ho2 c0 c1 c2 c3 c4 c5 c6
  obtain⟨_,c0,c1,c2,c3,c4,c5,c6⟩:=hX2.box
  have hsr:=Nat.le_trans hbase hb2.size
  have hol:Hid (o.length≤90000000):=hide (by rw[hpre.out];exact HLE.out j)
  cases gk with
  | zero=>
   obtain rfl:j=m:=by omega
   have hjz:¬((j:Int)<(j:Int)):=by omega
   have hq:Hid (o++[42]++FT.esc l=ys):=hide (by
    rw[←HY.out,hpre.out,List.take_of_length_le (by rw[HM.out];exact Nat.le_refl _)]
    simp[FT.pieceT])
   clear HA hpre HX1 HLE HM HY
   go_wp2_with (at_builtin;go_must (refine app8t _ rfl (.tmp 24) _ rfl base _ _ o rfl hor ⟨#[42]⟩ rfl _ (hide rfl) (hide (by simp;rfl)) (by have:=hol.out;have e1:(⟨#[42]⟩:ByteArray).size=1:=rfl;omega) hsr ?_))
   intro v4 w4 ho4 hb4 hk4
   have e4:o++(⟨#[42]⟩:ByteArray).data.toList=o++[42]:=rfl
   rw[e4] at ho4
   replace ho4:w4.ownsRow base 5 1 v4 (o++[42]).length (bys (o++[42])):=by rw[List.length_append];exact ho4
   have hX4:=hX2.keep hk4
   have hb5:=hb2.trans hb4
   have hk5:=hk2.trans hk4
   have hs4:=Nat.le_trans hbase hb5.size
   have hcl:=jappendx_any l (by have:=Hl.out;omega) sl Hsl.out v4 (o++[42]) (by have:=hol.out;simp only[List.length_append,List.length_singleton];omega) w4 base hs4 ho4 ys hq.out
   clear c0 c1 c2 c3 c4 c5 c6 hb2 hk2 hb4 hk4 hbr hX2 hor ho4 hq
   obtain⟨_,c0,c1,c2,c3,c4,c5,c6⟩:=hX4.box
   go_wp2_with (go_at_call 53;fail)
   refine hcl.mono ?_
   rintro e w5 ⟨v5,rfl,ho5,hb6,hk6⟩
   go_wp2
   go_ret
   exact⟨_,rfl,ho5,hb5.trans hb6,hk5.trans hk6⟩
  | succ r=>
   have hj:j<m:=by omega
   have hjz:(j:Int)<(m:Int):=by omega
   obtain⟨x,hx⟩:∃x,any[j]?=some x:=⟨_,List.getElem?_eq_getElem (by rw[HM.out];exact hj)⟩
   obtain⟨g,oo,hAe,hg,hc⟩:=HA.out.texts (fun h=>by rw[h] at hx;simp at hx)
   subst hAe
   have x0:=(hb2.cell (p:=⟨g,oo+j,none⟩) hg).trans (hc j x hx)
   have hxm:=List.mem_of_getElem? hx
   have hxl:=HX1.out x hxm
   have hnx:Hid (o++[42]++FT.esc x=p++FT.esc f++(any.take (j+1)).flatMap (fun x=>42::FT.esc x)):=hide (by rw[FT.flat_take _ hx,hpre.out];simp)
   obtain⟨X,hX⟩:∃X,txt x=X:=⟨_,rfl⟩
   rw[hX] at x0
   clear hc hx hxm hpre
   go_wp2_with (at_builtin;go_must (refine app8t _ rfl (.tmp 18) _ rfl base _ _ o rfl hor ⟨#[42]⟩ rfl _ (hide rfl) (hide (by simp;rfl)) (by have:=hol.out;have e1:(⟨#[42]⟩:ByteArray).size=1:=rfl;omega) hsr ?_))
   intro v4 w4 ho4 hb4 hk4
   have e4:o++(⟨#[42]⟩:ByteArray).data.toList=o++[42]:=rfl
   rw[e4] at ho4
   replace ho4:w4.ownsRow base 5 1 v4 (o++[42]).length (bys (o++[42])):=by rw[List.length_append];exact ho4
   have hX4:=hX2.keep hk4
   have hb5:=hb2.trans hb4
   have hk5:=hk2.trans hk4
   have hs4:=Nat.le_trans hbase hb5.size
   have hcl:=jappendx_any x (by omega) X hX v4 (o++[42]) (by have:=hol.out;simp only[List.length_append,List.length_singleton];omega) w4 base hs4 ho4 _ rfl
   clear c0 c1 c2 c3 c4 c5 c6 hb2 hk2 hb4 hk4 hbr hX2 hor ho4
   go_wp2_with (go_at_call 53;fail)
   refine hcl.mono ?_
   rintro e w5 ⟨v5,rfl,ho5,hb6,hk6⟩
   have hX5:=hX4.keep hk6
   have hb7:=hb5.trans hb6
   have hk7:=hk5.trans hk6
   clear hX4 hb5 hk5 hb6 hk6 hcl
   go_wp2
   go_roundg r
   case measure=>omega
   case rel=>exact⟨j+1,_,by omega,by go_num,hnx,ho5,hide ⟨hb7,hk7,hX5⟩⟩
end Go.Proofs.YtaolhefllfnmiaaGreatDoor
namespace Go.Proofs.YtaolhefllfnmiaaGreatDoor
open Go.RowKit
set_option linter.unusedVariables false
theorem KeepT.below {w w':World} (h:Below w.heap.size w w'):KeepT w w':=⟨h.size,fun g hg _=>h.block g hg⟩
theorem Marks.base {w w':World} {B:Nat} (h:Marks w) (hb:Below B w w') (hg:0<B):Marks w':=by
 refine⟨?_⟩
 have hn:Tryz.prog.globalNamed "verger/filter.marks" =some 0:=by kernel_rfl
 have h1:=h.var
 unfold World.var? at h1 ⊢
 rw[hn] at h1 ⊢
 simp only[Option.bind_some] at h1 ⊢
 rw[hb.block _ hg]
 exact h1
theorem Marks.lt {w:World} (h:Marks w):0<w.heap.size:=by
 have hn:Tryz.prog.globalNamed "verger/filter.marks" =some 0:=by kernel_rfl
 have h1:=h.var
 unfold World.var? at h1
 rw[hn] at h1
 simp only[Option.bind_some] at h1
 rcases Nat.lt_or_ge 0 w.heap.size with h' | h'
 ·exact h'
 ·rw [Array.getElem?_eq_none h'] at h1
  cases h1
def FT.wantT (k:Int) (v f l:List UInt8) (any:List (List UInt8)):List UInt8:=if k=7 then [42] else if k=4 then FT.pieceT f any l else FT.esc v
theorem FT.text_one {k:Int} (h:k=3∨k=4∨k=5∨k=6∨k=7∨k=8) (a v f l:List UInt8) (any:List (List UInt8)) (ps:List FT):FT.text (.mk k a v f l any ps)=40::(a++markV k++[61]++FT.wantT k v f l any++[41]):=by
 rcases h with rfl | rfl | rfl | rfl | rfl | rfl
 ·rw [FT.text_val 3 a v f l any ps (by omega),sign_mark];simp[FT.wantT]
 ·rw [FT.text_sub];simp[FT.wantT,FT.pieceT_is,markV]
 ·rw [FT.text_val 5 a v f l any ps (by omega),sign_mark];simp[FT.wantT]
 ·rw [FT.text_val 6 a v f l any ps (by omega),sign_mark];simp[FT.wantT]
 ·rw [FT.text_has];simp[FT.wantT,markV]
 ·rw [FT.text_val 8 a v f l any ps (by omega),sign_mark];simp[FT.wantT]
theorem jappendw_any (k:Int) (hk:k=3∨k=4∨k=5∨k=6∨k=7∨k=8) (sa sv sf sl:ByteArray) (v f l:List UInt8) (any:List (List UInt8)) (hsv:txt v=sv) (hsf:txt f=sf) (hsl:txt l=sl) (A:Option Addr) (m c:Nat) (D:Option Addr) (n d:Nat) (hm:any.length=m) (hml:m≤maxLen)
  (v0:Value) (p:List UInt8) (w:World) (base:Nat) (hbase:base≤w.heap.size) (hown:w.ownsRow base 5 1 v0 p.length (bys p)) (hA:Has w base 1 A m (strs any))
  (hv:v.length≤1000) (hf:f.length≤1000) (hl:l.length≤1000) (hx:∀x∈any,x.length≤1000) (ys:List UInt8) (hys:p++FT.wantT k v f l any=ys) (hlen:ys.length≤90000000):
  Calls Tryz.prog 38 #[v0,.agg #[.int .i64 k,.string sa,.string sv,.string sf,.string sl,.slice A m c,.slice D n d]] w (Wrote w base ys):=by
 have hX:=BoxF.new w k sa sv sf sl A m c D n d
 have hb0:Below base w (w.alloc (.cells #[.int .i64 k,.string sa,.string sv,.string sf,.string sl,.slice A m c,.slice D n d] 33)):=(Below.refl _ _).alloc hbase _
 have hk0:=KeepT.alloc w (.cells #[.int .i64 k,.string sa,.string sv,.string sf,.string sl,.slice A m c,.slice D n d] 33)
 have ho0:=hown.alloc (.cells #[.int .i64 k,.string sa,.string sv,.string sf,.string sl,.slice A m c,.slice D n d] 33)
 have hs0:=Nat.le_trans hbase hb0.size
 have hA0:=hA.below hb0
 obtain⟨_,c0,c1,c2,c3,c4,c5,c6⟩:=hX.box
 have hp:p.length≤90000000:=by have:=congrArg List.length hys;rw[List.length_append] at this;omega
 by_cases h7:k=7
 ·subst h7
  have e4:p++(⟨#[42]⟩:ByteArray).data.toList=ys:=by rw[←hys];rfl
  have e5:p.length+(⟨#[42]⟩:ByteArray).size=ys.length:=by rw[←e4,List.length_append];rfl
  have E4:=hide e4
  have E5:=hide e5
  clear hA hA0 hX hown hys hlen hx e4 e5 hsv hsf hsl hv hf hl
  go_enter Tryz.func38,Tryz.ntmps38
  go_wp2_with (at_builtin;go_must (refine app8t _ rfl (.tmp 9) _ rfl base _ _ p rfl ho0 ⟨#[42]⟩ rfl ys E4 E5 (by have e1:(⟨#[42]⟩:ByteArray).size=1:=rfl;omega) hs0 ?_))
  intro v4 w4 ho4 hb4 hk4
  clear c0 c1 c2 c3 c4 c5 c6
  go_wp2
  go_ret
  exact⟨_,rfl,ho4,hb0.trans hb4,hk0.trans hk4⟩
 ·by_cases h4:k=4
  ·subst h4
   have hys':p++FT.pieceT f any l=ys:=by rw[←hys];rfl
   have hc:=jappendp_any 4 sa sv sf sl f l any hsf hsl A m c D n d hm hml v0 p _ base hs0 ho0 hA0 hf hl hx ys hys' hlen
   clear hA hA0 hX hown hys hys' hlen hx hsv hsf hsl hv hf hl ho0 hm hml
   go_enter Tryz.func38,Tryz.ntmps38
   go_wp2_with (go_at_call 52;fail)
   refine hc.mono ?_
   rintro e w4 ⟨v4,rfl,ho4,hb4,hk4⟩
   clear c0 c1 c2 c3 c4 c5 c6 hc
   go_wp2
   go_ret
   exact⟨_,rfl,ho4,hb0.trans hb4,hk0.trans hk4⟩
  ·have g7:(k==7)=false:=by simp[h7]
   have g4:(k==4)=false:=by simp[h4]
   have hys':p++FT.esc v=ys:=by rw[←hys,FT.wantT,if_neg h7,if_neg h4]
   have hc:=jappendx_any v (by omega) sv hsv v0 p (by omega) _ base hs0 ho0 ys hys'
   clear hA hA0 hX hown hys hys' hlen hx hsv hsf hsl hv hf hl ho0 hm hml hk h7 h4
   go_enter Tryz.func38,Tryz.ntmps38
   go_wp2_with (go_at_call 53;fail)
   refine hc.mono ?_
   rintro e w4 ⟨v4,rfl,ho4,hb4,hk4⟩
   clear c0 c1 c2 c3 c4 c5 c6 hc
   go_wp2
   go_ret
   exact⟨_,rfl,ho4,hb0.trans hb4,hk0.trans hk4⟩
theorem jtexto_any (k:Int) (hk:k=3∨k=4∨k=5∨k=6∨k=7∨k=8) (sa sv sf sl:ByteArray) (a v f l:List UInt8) (any:List (List UInt8)) (ps:List FT) (hsa:txt a=sa) (hsv:txt v=sv) (hsf:txt f=sf) (hsl:txt l=sl) (A:Option Addr) (m c:Nat) (D:Option Addr) (n d:Nat) (hm:any.length=m) (hml:m≤maxLen)
  (v0:Value) (p:List UInt8) (w:World) (base:Nat) (hbase:base≤w.heap.size) (hMk:Marks w) (hgb:0<base) (hown:w.ownsRow base 5 1 v0 p.length (bys p)) (hA:Has w base 1 A m (strs any))
  (ha:a.length≤1000) (hv:v.length≤1000) (hf:f.length≤1000) (hl:l.length≤1000) (hx:∀x∈any,x.length≤1000) (ys:List UInt8) (hys:p++FT.text (.mk k a v f l any ps)=ys) (hlen:ys.length≤90000000):
  Calls Tryz.prog 24 #[v0,.agg #[.int .i64 k,.string sa,.string sv,.string sf,.string sl,.slice A m c,.slice D n d]] w (Wrote w base ys):=by
 rw[FT.text_one hk] at hys
 have hX:=BoxF.new w k sa sv sf sl A m c D n d
 have hb0:Below base w (w.alloc (.cells #[.int .i64 k,.string sa,.string sv,.string sf,.string sl,.slice A m c,.slice D n d] 33)):=(Below.refl _ _).alloc hbase _
 have hk0:=KeepT.alloc w (.cells #[.int .i64 k,.string sa,.string sv,.string sf,.string sl,.slice A m c,.slice D n d] 33)
 have ho0:=hown.alloc (.cells #[.int .i64 k,.string sa,.string sv,.string sf,.string sl,.slice A m c,.slice D n d] 33)
 have hs0:=Nat.le_trans hbase hb0.size
 obtain⟨w1,hw1⟩:∃w1,w.alloc (.cells #[.int .i64 k,.string sa,.string sv,.string sf,.string sl,.slice A m c,.slice D n d] 33)=w1:=⟨_,rfl⟩
 rw[hw1] at hX hb0 hk0 ho0 hs0
 have hlp:=congrArg List.length hys
 simp only[List.length_append,List.length_cons,List.length_nil] at hlp
 obtain⟨_,c0,c1,c2,c3,c4,c5,c6⟩:=hX.box
 have hH1:Has (w1.alloc (.cells #[.int .u8 40] 5)) _ 1 _ 1 (bys [40]):=Has.own (one8 w1 40)
 have ho1:=ho0.alloc (.cells #[.int .u8 40] 5)
 have hb1:=hb0.alloc hs0 (.cells #[.int .u8 40] 5)
 have hk1:=hk0.trans (KeepT.alloc w1 (.cells #[.int .u8 40] 5))
 have hX1:=hX.keep (KeepT.alloc w1 (.cells #[.int .u8 40] 5))
 have hs1:=Nat.le_trans hbase hb1.size
 have g0:(k==0)=false:=by rcases hk with rfl | rfl | rfl | rfl | rfl | rfl<;>rfl
 have g1:(k==1)=false:=by rcases hk with rfl | rfl | rfl | rfl | rfl | rfl<;>rfl
 have g2:(k==2)=false:=by rcases hk with rfl | rfl | rfl | rfl | rfl | rfl<;>rfl
 have hlm:(markV k).length≤1:=by unfold markV;repeat (first | split | simp)
 obtain⟨mk,hmk⟩:∃mk,markV k=mk:=⟨_,rfl⟩
 have hMc:=fun w hM=>jmark_any k w hM
 rw[hmk] at hMc hlm hys hlp
 have HMc:=hide hMc
 have Hys:=hide hys
 have Hw1:=hide hw1
 have Hs:=hide (And.intro hsa (And.intro hsv (And.intro hsf hsl)))
 have HA:=hide hA
 have Hx:=hide hx
 have HMk:=hide hMk
 obtain⟨B1,hB1⟩:∃B1,p++[40]=B1:=⟨_,rfl⟩
 obtain⟨B2,hB2⟩:∃B2,B1++a=B2:=⟨_,rfl⟩
 obtain⟨B3,hB3⟩:∃B3,B2++mk=B3:=⟨_,rfl⟩
 obtain⟨B4,hB4⟩:∃B4,B3++[61]=B4:=⟨_,rfl⟩
 obtain⟨B5,hB5⟩:∃B5,B4++FT.wantT k v f l any=B5:=⟨_,rfl⟩
 have hB6:B5++[41]=ys:=by rw[←hB5,←hB4,←hB3,←hB2,←hB1,←hys];simp
 have n1:p.length+1=B1.length:=by rw[←hB1];simp
 have n2:B1.length+a.length=B2.length:=by rw[←hB2];simp
 have n3:B2.length+mk.length=B3.length:=by rw[←hB3];simp
 have n4:B3.length+1=B4.length:=by rw[←hB4];simp
 have n6:B5.length+1=ys.length:=by rw[←hB6];simp
 have n5:B4.length≤B5.length:=by rw[←hB5];simp
 have e2:B1++sa.data.toList=B2:=by rw[←hsa,←hB2];simp[txt]
 have m2:B1.length+sa.size=B2.length:=by rw[←hsa,txt_size];exact n2
 have e3:B2++(txt mk).data.toList=B3:=by rw[←hB3];simp[txt]
 have m3:B2.length+(txt mk).size=B3.length:=by rw[txt_size];exact n3
 have q1:=hide hB1
 have q2:=hide e2
 have q3:=hide e3
 have q4:=hide hB4
 have q5:=hide hB5
 have q6:=hide hB6
 have r1:=hide n1
 have r2:=hide m2
 have r3:=hide m3
 have r4:=hide n4
 have r6:=hide n6
 have Hk:=hide hk
 have z2:B1.length+sa.size≤140737488355328:=by omega
 have z3:B2.length+(txt mk).size≤140737488355328:=by rw[m3];omega
 have z4:B3.length+1≤140737488355328:=by omega
 have z6:B5.length+1≤140737488355328:=by omega
 have z5:B5.length≤90000000:=by omega
 have z1:p.length+1≤140737488355328:=by omega
 obtain⟨sm,hsm⟩:∃sm,txt mk=sm:=⟨_,rfl⟩
 rw[hsm] at q3 r3 z3 hMc
 replace HMc:=hide hMc
 clear hMc hys hw1 hsa hsv hsf hsl hA hx hMk hB1 hB2 hB3 hB4 hB5 hB6 n1 n2 n3 n4 n6 n5 e2 e3 m2 m3 hlp hown hk hmk hlm hsm hlen
 go_enter Tryz.func24,Tryz.ntmps24
 go_upto_region 1 with fail
 rw[Hw1.out]
 clear Hw1
 go_wp2_with (at_builtin;go_must (refine app8k _ rfl (.tmp 7) (.tmp 8) rfl base _ _ p rfl ho1 _ _ 1 1 [40] rfl hH1 B1 q1 r1 z1 hs1 ?_))
 intro v2 w2 ho2 hb2 hk2
 have hX2:=hX1.keep hk2
 have hb3:=hb1.trans hb2
 have hk3:=hk1.trans hk2
 have hs2:=Nat.le_trans hbase hb3.size
 clear c0 c1 c2 c3 c4 c5 c6 ho0 ho1 hb0 hb1 hk0 hk1 hX hX1 hb2 hk2 hs0 hs1 hH1
 obtain⟨_,c0,c1,c2,c3,c4,c5,c6⟩:=hX2.box
 go_wp2_with (at_builtin;go_must (refine app8t _ rfl (.tmp 12) _ rfl base _ _ B1 rfl ho2 sa rfl B2 q2 r2 z2 hs2 ?_))
 intro v4 w4 ho4 hb4 hk4
 have hX4:=hX2.keep hk4
 have hb5:=hb3.trans hb4
 have hk5:=hk3.trans hk4
 clear c0 c1 c2 c3 c4 c5 c6 ho2 hb3 hk3 hX2 hb4 hk4 hs2
 obtain⟨_,c0,c1,c2,c3,c4,c5,c6⟩:=hX4.box
 have hcm:=HMc.out w4 (HMk.out.base hb5 hgb)
 go_wp2_with (go_at_call 37;fail)
 refine hcm.mono ?_
 rintro e w5 ⟨rfl,hb6⟩
 have hk6:=KeepT.below hb6
 have hs4:=Nat.le_trans hbase hb5.size
 have ho5:=own_below ho4 hb6
 have hX5:=hX4.keep hk6
 have hb7:=hb5.trans (hb6.mono hs4)
 have hk7:=hk5.trans hk6
 have hs5:=Nat.le_trans hbase hb7.size
 clear c0 c1 c2 c3 c4 c5 c6 ho4 hb5 hk5 hX4 hb6 hk6 hs4 hcm
 obtain⟨_,c0,c1,c2,c3,c4,c5,c6⟩:=hX5.box
 go_wp2_with (at_builtin;go_must (refine app8t _ rfl (.tmp 16) _ rfl base _ _ B2 rfl ho5 sm rfl B3 q3 r3 z3 hs5 ?_))
 intro v6 w6 ho6 hb8 hk8
 have hX6:=hX5.keep hk8
 have hb9:=hb7.trans hb8
 have hk9:=hk7.trans hk8
 have hs6:=Nat.le_trans hbase hb9.size
 clear c0 c1 c2 c3 c4 c5 c6 ho5 hb7 hk7 hX5 hb8 hk8 hs5
 have hH7:Has (w6.alloc (.cells #[.int .u8 61] 5)) _ 1 _ 1 (bys [61]):=Has.own (one8 w6 61)
 have ho7:=ho6.alloc (.cells #[.int .u8 61] 5)
 have hb10:=hb9.alloc hs6 (.cells #[.int .u8 61] 5)
 have hk10:=hk9.trans (KeepT.alloc w6 (.cells #[.int .u8 61] 5))
 have hX7:=hX6.keep (KeepT.alloc w6 (.cells #[.int .u8 61] 5))
 have hs7:=Nat.le_trans hbase hb10.size
 clear ho6 hb9 hk9 hX6 hs6
 go_wp2_with (at_builtin;go_must (refine app8k _ rfl (.tmp 21) (.tmp 22) rfl base _ _ B3 rfl ho7 _ _ 1 1 [61] rfl hH7 B4 q4 r4 z4 hs7 ?_))
 intro v8 w8 ho8 hb11 hk11
 have hX8:=hX7.keep hk11
 have hb12:=hb10.trans hb11
 have hk12:=hk10.trans hk11
 have hs8:=Nat.le_trans hbase hb12.size
 clear ho7 hb10 hk10 hX7 hs7 hb11 hk11 hH7
 obtain⟨_,c0,c1,c2,c3,c4,c5,c6⟩:=hX8.box
 have hcw:=jappendw_any k Hk.out sa sv sf sl v f l any Hs.out.2.1 Hs.out.2.2.1 Hs.out.2.2.2 A m c D n d hm hml v8 B4 w8 base hs8 ho8 (HA.out.below hb12) hv hf hl Hx.out B5 q5.out z5
 clear ho8
 go_wp2_with (go_at_call 38;fail)
 refine hcw.mono ?_
 rintro e w9 ⟨v9,rfl,ho9,hb13,hk13⟩
 have hb14:=hb12.trans hb13
 have hk14:=hk12.trans hk13
 have hs9:=Nat.le_trans hbase hb14.size
 clear c0 c1 c2 c3 c4 c5 c6 hb12 hk12 hX8 hb13 hk13 hs8 hcw
 have hH10:Has (w9.alloc (.cells #[.int .u8 41] 5)) _ 1 _ 1 (bys [41]):=Has.own (one8 w9 41)
 have ho10:=ho9.alloc (.cells #[.int .u8 41] 5)
 have hb15:=hb14.alloc hs9 (.cells #[.int .u8 41] 5)
 have hk15:=hk14.trans (KeepT.alloc w9 (.cells #[.int .u8 41] 5))
 have hs10:=Nat.le_trans hbase hb15.size
 clear ho9 hb14 hk14 hs9
 go_wp2_with (at_builtin;go_must (refine app8k _ rfl (.tmp 48) (.tmp 49) rfl base _ _ B5 rfl ho10 _ _ 1 1 [41] rfl hH10 ys q6 r6 z6 hs10 ?_))
 intro v11 w11 ho11 hb16 hk16
 have hb17:=hb15.trans hb16
 have hk17:=hk15.trans hk16
 clear ho10 hb15 hk15 hb16 hk16 hs10 hH10
 go_wp2
 go_ret
 exact⟨_,rfl,ho11,hb17,hk17⟩
end Go.Proofs.YtaolhefllfnmiaaGreatDoor
namespace Go.Proofs.YtaolhefllfnmiaaGreatDoor
open Go.RowKit
set_option linter.unusedVariables false
theorem sig_at0 (W:World):(Instr.index 9 (.string ⟨#[38,124,33]⟩) (.int .i64 0)).run Tryz.prog W=.ok (.int .u8 38) W:=by
 rw[run_index_string (P:=Tryz.prog) W 9 _ .i64 0 Tryz.underlying9]
 rfl
theorem jtextp0_any (sa sv sf sl:ByteArray) (a v f l:List UInt8) (any:List (List UInt8)) (ps:List FT) (A:Option Addr) (m c:Nat) (D:Option Addr) (n d:Nat) (hn:ps.length=n) (hnl:n≤maxLen) (xs:List Value)
  (v0:Value) (p:List UInt8) (w:World) (base:Nat) (hbase:base≤w.heap.size) (hMk:Marks w) (hgb:0<base) (hown:w.ownsRow base 5 1 v0 p.length (bys p)) (hD:Has w base 7 D n xs) (hP:FsIn w base ps xs)
  (ih:∀q∈ps,∀(w:World) (v0:Value) (p ys:List UInt8) (u0 u1 u2 u3 u4 u5 u6:Value),base≤w.heap.size→Marks w→w.ownsRow base 5 1 v0 p.length (bys p)→FIn w base q [u0,u1,u2,u3,u4,u5,u6]→p++q.text=ys→ys.length≤90000000→Calls Tryz.prog 24 #[v0,.agg #[u0,u1,u2,u3,u4,u5,u6]] w (Wrote w base ys))
  (ys:List UInt8) (hys:p++FT.text (.mk 0 a v f l any ps)=ys) (hlen:ys.length≤90000000):
  Calls Tryz.prog 24 #[v0,.agg #[.int .i64 0,.string sa,.string sv,.string sf,.string sl,.slice A m c,.slice D n d]] w (Wrote w base ys):=by
 rw[FT.text_parts 0 a v f l any ps (by omega),show FT.head8 0=38 from rfl] at hys
 unfold maxLen at hnl
 have hni:(n:Int)≤9223372036854775807:=by omega
 have hX:=BoxF.new w 0 sa sv sf sl A m c D n d
 have hb0:Below base w (w.alloc (.cells #[.int .i64 0,.string sa,.string sv,.string sf,.string sl,.slice A m c,.slice D n d] 33)):=(Below.refl _ _).alloc hbase _
 have hk0:=KeepT.alloc w (.cells #[.int .i64 0,.string sa,.string sv,.string sf,.string sl,.slice A m c,.slice D n d] 33)
 have ho0:=hown.alloc (.cells #[.int .i64 0,.string sa,.string sv,.string sf,.string sl,.slice A m c,.slice D n d] 33)
 have hs0:=Nat.le_trans hbase hb0.size
 obtain⟨w1,hw1⟩:∃w1,w.alloc (.cells #[.int .i64 0,.string sa,.string sv,.string sf,.string sl,.slice A m c,.slice D n d] 33)=w1:=⟨_,rfl⟩
 rw[hw1] at hX hb0 hk0 ho0 hs0
 have hlp:=congrArg List.length hys
 simp only[List.length_append,List.length_cons,List.length_nil] at hlp
 obtain⟨_,c0,c1,c2,c3,c4,c5,c6⟩:=hX.box
 have hH1:Has (w1.alloc (.cells #[.int .u8 40] 5)) _ 1 _ 1 (bys [40]):=Has.own (one8 w1 40)
 have ho1:=ho0.alloc (.cells #[.int .u8 40] 5)
 have hb1:=hb0.alloc hs0 (.cells #[.int .u8 40] 5)
 have hk1:=hk0.trans (KeepT.alloc w1 (.cells #[.int .u8 40] 5))
 have hX1:=hX.keep (KeepT.alloc w1 (.cells #[.int .u8 40] 5))
 have hs1:=Nat.le_trans hbase hb1.size
 have hsg:=fun W=>sig_at0 W
 obtain⟨B1,hB1⟩:∃B1,p++[40]=B1:=⟨_,rfl⟩
 obtain⟨B2,hB2⟩:∃B2,B1++[38]=B2:=⟨_,rfl⟩
 have n1:p.length+1=B1.length:=by rw[←hB1];simp
 have n2:B1.length+1=B2.length:=by rw[←hB2];simp
 have hle:∀j,(B2++(ps.take j).flatMap FT.text).length+1≤ys.length:=fun j=>by
  have h1:=FT.flat_le FT.text ps j
  rw[List.length_append]
  omega
 have hyl:B2++ps.flatMap FT.text++[41]=ys:=by rw[←hB2,←hB1,←hys];simp
 have q1:=hide hB1
 have q2:=hide hB2
 have r1:=hide n1
 have r2:=hide n2
 have z1:p.length+1≤140737488355328:=by omega
 have z2:B1.length+1≤140737488355328:=by omega
 have HLE:=hide hle
 have HYL:=hide hyl
 have Hw1:=hide hw1
 have HMk:=hide hMk
 have HD:=hide hD
 have HP:=hide hP
 have Hih:=hide ih
 have Hn:=hide hn
 clear hys hw1 hMk hD hP ih hn hB1 hB2 n1 n2 hle hyl hlp hown
 go_enter Tryz.func24,Tryz.ntmps24
 go_upto_region 1 with fail
 rw[Hw1.out]
 clear Hw1
 go_wp2_with (at_builtin;go_must (refine app8k _ rfl (.tmp 7) (.tmp 8) rfl base _ _ p rfl ho1 _ _ 1 1 [40] rfl hH1 B1 q1 r1 z1 hs1 ?_))
 intro v2 w2 ho2 hb2 hk2
 have hX2:=hX1.keep hk2
 have hb3:=hb1.trans hb2
 have hk3:=hk1.trans hk2
 have hs2:=Nat.le_trans hbase hb3.size
 clear c0 c1 c2 c3 c4 c5 c6 ho0 ho1 hb0 hb1 hk0 hk1 hX hX1 hb2 hk2 hs0 hs1 hH1
 have hH3:Has (w2.alloc (.cells #[.int .u8 38] 5)) _ 1 _ 1 (bys [38]):=Has.own (one8 w2 38)
 have ho3:=ho2.alloc (.cells #[.int .u8 38] 5)
 have hb4:=hb3.alloc hs2 (.cells #[.int .u8 38] 5)
 have hk4:=hk3.trans (KeepT.alloc w2 (.cells #[.int .u8 38] 5))
 have hX3:=hX2.keep (KeepT.alloc w2 (.cells #[.int .u8 38] 5))
 have hs3:=Nat.le_trans hbase hb4.size
 obtain⟨_,c0,c1,c2,c3,c4,c5,c6⟩:=hX2.box
 obtain⟨_,e0,e1,e2,e3,e4,e5,e6⟩:=hX3.box
 clear ho2 hb3 hk3 hX2 hs2
 go_wp2_with (at_builtin;go_must (refine app8k _ rfl (.tmp 31) (.tmp 35) rfl base _ _ B1 rfl ho3 _ _ 1 1 [38] rfl hH3 B2 q2 r2 z2 hs3 ?_))
 intro v4 w4 ho4 hb5 hk5
 have hX4:=hX3.keep hk5
 have hb6:=hb4.trans hb5
 have hk6:=hk4.trans hk5
 clear c0 c1 c2 c3 c4 c5 c6 e0 e1 e2 e3 e4 e5 e6 ho3 hb4 hk4 hX3 hb5 hk5 hs3 hH3
 have HX4:=hide hX4
 obtain⟨_,c0,c1,c2,c3,c4,c5,c6⟩:=hX4.box
 clear hX4
 go_wp2
 go_loopg [0,40] n (fun r s0 s40 wx=>∃(j:Nat) (o:List UInt8),j+r=n∧s40=.int .i64 (j:Int)∧Hid (o=B2++(ps.take j).flatMap FT.text)∧wx.ownsRow base 5 1 s0 o.length (bys o)∧Hid (Below base w wx∧KeepT w wx∧BoxF wx w.heap.size 0 sa sv sf sl A m c D n d))
 case atStart=>exact⟨0,_,by omega,rfl,hide (by simp),ho4,hide ⟨hb6,hk6,HX4.out⟩⟩
 case round=>
  obtain⟨j,o,hjg,rfl,hpre,hor,hbr⟩:=hrel
  obtain⟨hb2,hk2,hX2⟩:=hbr.out
  clear HX4 hb6 hk6 ho4 c0 c1 c2 c3 c4 c5 c6
  obtain⟨_,c0,c1,c2,c3,c4,c5,c6⟩:=hX2.box
  have hsr:=Nat.le_trans hbase hb2.size
  have hol:Hid (o.length+1≤90000000):=hide (by have:=HLE.out j;rw[hpre.out];omega)
  cases gk with
  | zero=>
   obtain rfl:j=n:=by omega
   have hjz:¬((j:Int)<(j:Int)):=by omega
   have hq:Hid (o++[41]=ys):=hide (by
    rw[hpre.out,List.take_of_length_le (by rw[Hn.out];exact Nat.le_refl _)]
    exact HYL.out)
   have hql:Hid (o.length+1=ys.length):=hide (by rw[←hq.out];simp)
   have zq:o.length+1≤140737488355328:=by have:=hol.out;omega
   have hH10:Has (wr.alloc (.cells #[.int .u8 41] 5)) _ 1 _ 1 (bys [41]):=Has.own (one8 wr 41)
   have ho10:=hor.alloc (.cells #[.int .u8 41] 5)
   have hb15:=hb2.alloc hsr (.cells #[.int .u8 41] 5)
   have hk15:=hk2.trans (KeepT.alloc wr (.cells #[.int .u8 41] 5))
   have hs10:=Nat.le_trans hbase hb15.size
   clear HD HP Hih Hn hpre HLE HYL hor hb2 hk2 hX2 hbr
   go_wp2_with (at_builtin;go_must (refine app8k _ rfl (.tmp 48) (.tmp 49) rfl base _ _ o rfl ho10 _ _ 1 1 [41] rfl hH10 ys hq hql zq hs10 ?_))
   intro v11 w11 ho11 hb16 hk16
   have hb17:=hb15.trans hb16
   have hk17:=hk15.trans hk16
   clear ho10 hb15 hk15 hb16 hk16 hs10 hH10
   go_wp2
   go_ret
   exact⟨_,rfl,ho11,hb17,hk17⟩
  | succ r=>
   have hj:j<n:=by omega
   have hjz:(j:Int)<(n:Int):=by omega
   obtain⟨q,hp⟩:∃q,ps[j]?=some q:=⟨_,List.getElem?_eq_getElem (by rw[Hn.out];exact hj)⟩
   have HD1:=HD.out
   have HP1:=HP.out
   rw[←Hn.out] at HD1
   obtain⟨g,oo,hDe,hg,hparts⟩:=HD1.part HP1 (fun h=>by rw[h] at hp;simp at hp)
   subst hDe
   obtain⟨u0,u1,u2,u3,u4,u5,u6,hpart⟩:=hparts j q hp
   obtain⟨pk,pa,pv,pf,pl,pA,pm,pc,pD,pn,pd,rfl,rfl,rfl,rfl,rfl,rfl,rfl⟩:=hpart.fin.shape
   obtain⟨hcp2,_,x0,x1,x2,x3,x4,x5,x6⟩:=hpart.below hb2
   have hPX:=Box7.new wr pk pa pv pf pl pA pm pc pD pn pd 33
   have hbp:Below base wr (wr.alloc (.cells #[.int .i64 pk,.string pa,.string pv,.string pf,.string pl,.slice pA pm pc,.slice pD pn pd] 33)):=(Below.refl _ _).alloc hsr _
   have hkp:=KeepT.alloc wr (.cells #[.int .i64 pk,.string pa,.string pv,.string pf,.string pl,.slice pA pm pc,.slice pD pn pd] 33)
   have hop:=hor.alloc (.cells #[.int .i64 pk,.string pa,.string pv,.string pf,.string pl,.slice pA pm pc,.slice pD pn pd] 33)
   obtain⟨wp,hwp⟩:∃wp,wr.alloc (.cells #[.int .i64 pk,.string pa,.string pv,.string pf,.string pl,.slice pA pm pc,.slice pD pn pd] 33)=wp:=⟨_,rfl⟩
   rw[hwp] at hPX hbp hkp hop
   have hcp3:=hcp2.below hbp
   have hb5:=hb2.trans hbp
   have hk5:=hk2.trans hkp
   have hX5:=hX2.keep hkp
   obtain⟨_,p0,p1,p2,p3,p4,p5,p6⟩:=hPX
   have hnx:Hid (o++q.text=B2++(ps.take (j+1)).flatMap FT.text):=hide (by rw[FT.flat_take FT.text hp,hpre.out];simp)
   have hnl2:(o++q.text).length≤90000000:=by rw[hnx.out];have:=HLE.out (j+1);omega
   have hcall:=Hih.out q (List.mem_of_getElem? hp) wp _ o (o++q.text) _ _ _ _ _ _ _ (Nat.le_trans hbase hb5.size) (HMk.out.base hb5 hgb) hop hcp3 rfl hnl2
   have Hwp:=hide hwp
   clear HD HP Hih Hn hpre HLE HYL hp HD1 HP1 hparts hpart hcp2 hcp3 hwp hor hop hbr hb2 hk2 hX2 hbp hkp hnl2
   go_wp2_with (go_at_call 24;fail)
   rw[Hwp.out]
   refine hcall.mono ?_
   rintro e w3 ⟨v3,rfl,ho3,hb3,hk3⟩
   have hb7:=hb5.trans hb3
   have hk7:=hk5.trans hk3
   have hX7:=hX5.keep hk3
   clear hcall hb3 hb5 hk3 hk5 hX5 x0 x1 x2 x3 x4 x5 x6 p0 p1 p2 p3 p4 p5 p6 c0 c1 c2 c3 c4 c5 c6
   go_wp2
   go_roundg r
   case measure=>omega
   case rel=>exact⟨j+1,_,by omega,by go_num,hnx,ho3,hide ⟨hb7,hk7,hX7⟩⟩
theorem sig_at1 (W:World):(Instr.index 9 (.string ⟨#[38,124,33]⟩) (.int .i64 1)).run Tryz.prog W=.ok (.int .u8 124) W:=by
 rw[run_index_string (P:=Tryz.prog) W 9 _ .i64 1 Tryz.underlying9]
 rfl
theorem jtextp1_any (sa sv sf sl:ByteArray) (a v f l:List UInt8) (any:List (List UInt8)) (ps:List FT) (A:Option Addr) (m c:Nat) (D:Option Addr) (n d:Nat) (hn:ps.length=n) (hnl:n≤maxLen) (xs:List Value)
  (v0:Value) (p:List UInt8) (w:World) (base:Nat) (hbase:base≤w.heap.size) (hMk:Marks w) (hgb:0<base) (hown:w.ownsRow base 5 1 v0 p.length (bys p)) (hD:Has w base 7 D n xs) (hP:FsIn w base ps xs)
  (ih:∀q∈ps,∀(w:World) (v0:Value) (p ys:List UInt8) (u0 u1 u2 u3 u4 u5 u6:Value),base≤w.heap.size→Marks w→w.ownsRow base 5 1 v0 p.length (bys p)→FIn w base q [u0,u1,u2,u3,u4,u5,u6]→p++q.text=ys→ys.length≤90000000→Calls Tryz.prog 24 #[v0,.agg #[u0,u1,u2,u3,u4,u5,u6]] w (Wrote w base ys))
  (ys:List UInt8) (hys:p++FT.text (.mk 1 a v f l any ps)=ys) (hlen:ys.length≤90000000):
  Calls Tryz.prog 24 #[v0,.agg #[.int .i64 1,.string sa,.string sv,.string sf,.string sl,.slice A m c,.slice D n d]] w (Wrote w base ys):=by
 rw[FT.text_parts 1 a v f l any ps (by omega),show FT.head8 1=124 from rfl] at hys
 unfold maxLen at hnl
 have hni:(n:Int)≤9223372036854775807:=by omega
 have hX:=BoxF.new w 1 sa sv sf sl A m c D n d
 have hb0:Below base w (w.alloc (.cells #[.int .i64 1,.string sa,.string sv,.string sf,.string sl,.slice A m c,.slice D n d] 33)):=(Below.refl _ _).alloc hbase _
 have hk0:=KeepT.alloc w (.cells #[.int .i64 1,.string sa,.string sv,.string sf,.string sl,.slice A m c,.slice D n d] 33)
 have ho0:=hown.alloc (.cells #[.int .i64 1,.string sa,.string sv,.string sf,.string sl,.slice A m c,.slice D n d] 33)
 have hs0:=Nat.le_trans hbase hb0.size
 obtain⟨w1,hw1⟩:∃w1,w.alloc (.cells #[.int .i64 1,.string sa,.string sv,.string sf,.string sl,.slice A m c,.slice D n d] 33)=w1:=⟨_,rfl⟩
 rw[hw1] at hX hb0 hk0 ho0 hs0
 have hlp:=congrArg List.length hys
 simp only[List.length_append,List.length_cons,List.length_nil] at hlp
 obtain⟨_,c0,c1,c2,c3,c4,c5,c6⟩:=hX.box
 have hH1:Has (w1.alloc (.cells #[.int .u8 40] 5)) _ 1 _ 1 (bys [40]):=Has.own (one8 w1 40)
 have ho1:=ho0.alloc (.cells #[.int .u8 40] 5)
 have hb1:=hb0.alloc hs0 (.cells #[.int .u8 40] 5)
 have hk1:=hk0.trans (KeepT.alloc w1 (.cells #[.int .u8 40] 5))
 have hX1:=hX.keep (KeepT.alloc w1 (.cells #[.int .u8 40] 5))
 have hs1:=Nat.le_trans hbase hb1.size
 have hsg:=fun W=>sig_at1 W
 obtain⟨B1,hB1⟩:∃B1,p++[40]=B1:=⟨_,rfl⟩
 obtain⟨B2,hB2⟩:∃B2,B1++[124]=B2:=⟨_,rfl⟩
 have n1:p.length+1=B1.length:=by rw[←hB1];simp
 have n2:B1.length+1=B2.length:=by rw[←hB2];simp
 have hle:∀j,(B2++(ps.take j).flatMap FT.text).length+1≤ys.length:=fun j=>by
  have h1:=FT.flat_le FT.text ps j
  rw[List.length_append]
  omega
 have hyl:B2++ps.flatMap FT.text++[41]=ys:=by rw[←hB2,←hB1,←hys];simp
 have q1:=hide hB1
 have q2:=hide hB2
 have r1:=hide n1
 have r2:=hide n2
 have z1:p.length+1≤140737488355328:=by omega
 have z2:B1.length+1≤140737488355328:=by omega
 have HLE:=hide hle
 have HYL:=hide hyl
 have Hw1:=hide hw1
 have HMk:=hide hMk
 have HD:=hide hD
 have HP:=hide hP
 have Hih:=hide ih
 have Hn:=hide hn
 clear hys hw1 hMk hD hP ih hn hB1 hB2 n1 n2 hle hyl hlp hown
 go_enter Tryz.func24,Tryz.ntmps24
 go_upto_region 1 with fail
 rw[Hw1.out]
 clear Hw1
 go_wp2_with (at_builtin;go_must (refine app8k _ rfl (.tmp 7) (.tmp 8) rfl base _ _ p rfl ho1 _ _ 1 1 [40] rfl hH1 B1 q1 r1 z1 hs1 ?_))
 intro v2 w2 ho2 hb2 hk2
 have hX2:=hX1.keep hk2
 have hb3:=hb1.trans hb2
 have hk3:=hk1.trans hk2
 have hs2:=Nat.le_trans hbase hb3.size
 clear c0 c1 c2 c3 c4 c5 c6 ho0 ho1 hb0 hb1 hk0 hk1 hX hX1 hb2 hk2 hs0 hs1 hH1
 have hH3:Has (w2.alloc (.cells #[.int .u8 124] 5)) _ 1 _ 1 (bys [124]):=Has.own (one8 w2 124)
 have ho3:=ho2.alloc (.cells #[.int .u8 124] 5)
 have hb4:=hb3.alloc hs2 (.cells #[.int .u8 124] 5)
 have hk4:=hk3.trans (KeepT.alloc w2 (.cells #[.int .u8 124] 5))
 have hX3:=hX2.keep (KeepT.alloc w2 (.cells #[.int .u8 124] 5))
 have hs3:=Nat.le_trans hbase hb4.size
 obtain⟨_,c0,c1,c2,c3,c4,c5,c6⟩:=hX2.box
 obtain⟨_,e0,e1,e2,e3,e4,e5,e6⟩:=hX3.box
 clear ho2 hb3 hk3 hX2 hs2
 go_wp2_with (at_builtin;go_must (refine app8k _ rfl (.tmp 31) (.tmp 35) rfl base _ _ B1 rfl ho3 _ _ 1 1 [124] rfl hH3 B2 q2 r2 z2 hs3 ?_))
 intro v4 w4 ho4 hb5 hk5
 have hX4:=hX3.keep hk5
 have hb6:=hb4.trans hb5
 have hk6:=hk4.trans hk5
 clear c0 c1 c2 c3 c4 c5 c6 e0 e1 e2 e3 e4 e5 e6 ho3 hb4 hk4 hX3 hb5 hk5 hs3 hH3
 have HX4:=hide hX4
 obtain⟨_,c0,c1,c2,c3,c4,c5,c6⟩:=hX4.box
 clear hX4
 go_wp2
 go_loopg [0,40] n (fun r s0 s40 wx=>∃(j:Nat) (o:List UInt8),j+r=n∧s40=.int .i64 (j:Int)∧Hid (o=B2++(ps.take j).flatMap FT.text)∧wx.ownsRow base 5 1 s0 o.length (bys o)∧Hid (Below base w wx∧KeepT w wx∧BoxF wx w.heap.size 1 sa sv sf sl A m c D n d))
 case atStart=>exact⟨0,_,by omega,rfl,hide (by simp),ho4,hide ⟨hb6,hk6,HX4.out⟩⟩
 case round=>
  obtain⟨j,o,hjg,rfl,hpre,hor,hbr⟩:=hrel
  obtain⟨hb2,hk2,hX2⟩:=hbr.out
  clear HX4 hb6 hk6 ho4 c0 c1 c2 c3 c4 c5 c6
  obtain⟨_,c0,c1,c2,c3,c4,c5,c6⟩:=hX2.box
  have hsr:=Nat.le_trans hbase hb2.size
  have hol:Hid (o.length+1≤90000000):=hide (by have:=HLE.out j;rw[hpre.out];omega)
  cases gk with
  | zero=>
   obtain rfl:j=n:=by omega
   have hjz:¬((j:Int)<(j:Int)):=by omega
   have hq:Hid (o++[41]=ys):=hide (by
    rw[hpre.out,List.take_of_length_le (by rw[Hn.out];exact Nat.le_refl _)]
    exact HYL.out)
   have hql:Hid (o.length+1=ys.length):=hide (by rw[←hq.out];simp)
   have zq:o.length+1≤140737488355328:=by have:=hol.out;omega
   have hH10:Has (wr.alloc (.cells #[.int .u8 41] 5)) _ 1 _ 1 (bys [41]):=Has.own (one8 wr 41)
   have ho10:=hor.alloc (.cells #[.int .u8 41] 5)
   have hb15:=hb2.alloc hsr (.cells #[.int .u8 41] 5)
   have hk15:=hk2.trans (KeepT.alloc wr (.cells #[.int .u8 41] 5))
   have hs10:=Nat.le_trans hbase hb15.size
   clear HD HP Hih Hn hpre HLE HYL hor hb2 hk2 hX2 hbr
   go_wp2_with (at_builtin;go_must (refine app8k _ rfl (.tmp 48) (.tmp 49) rfl base _ _ o rfl ho10 _ _ 1 1 [41] rfl hH10 ys hq hql zq hs10 ?_))
   intro v11 w11 ho11 hb16 hk16
   have hb17:=hb15.trans hb16
   have hk17:=hk15.trans hk16
   clear ho10 hb15 hk15 hb16 hk16 hs10 hH10
   go_wp2
   go_ret
   exact⟨_,rfl,ho11,hb17,hk17⟩
  | succ r=>
   have hj:j<n:=by omega
   have hjz:(j:Int)<(n:Int):=by omega
   obtain⟨q,hp⟩:∃q,ps[j]?=some q:=⟨_,List.getElem?_eq_getElem (by rw[Hn.out];exact hj)⟩
   have HD1:=HD.out
   have HP1:=HP.out
   rw[←Hn.out] at HD1
   obtain⟨g,oo,hDe,hg,hparts⟩:=HD1.part HP1 (fun h=>by rw[h] at hp;simp at hp)
   subst hDe
   obtain⟨u0,u1,u2,u3,u4,u5,u6,hpart⟩:=hparts j q hp
   obtain⟨pk,pa,pv,pf,pl,pA,pm,pc,pD,pn,pd,rfl,rfl,rfl,rfl,rfl,rfl,rfl⟩:=hpart.fin.shape
   obtain⟨hcp2,_,x0,x1,x2,x3,x4,x5,x6⟩:=hpart.below hb2
   have hPX:=Box7.new wr pk pa pv pf pl pA pm pc pD pn pd 33
   have hbp:Below base wr (wr.alloc (.cells #[.int .i64 pk,.string pa,.string pv,.string pf,.string pl,.slice pA pm pc,.slice pD pn pd] 33)):=(Below.refl _ _).alloc hsr _
   have hkp:=KeepT.alloc wr (.cells #[.int .i64 pk,.string pa,.string pv,.string pf,.string pl,.slice pA pm pc,.slice pD pn pd] 33)
   have hop:=hor.alloc (.cells #[.int .i64 pk,.string pa,.string pv,.string pf,.string pl,.slice pA pm pc,.slice pD pn pd] 33)
   obtain⟨wp,hwp⟩:∃wp,wr.alloc (.cells #[.int .i64 pk,.string pa,.string pv,.string pf,.string pl,.slice pA pm pc,.slice pD pn pd] 33)=wp:=⟨_,rfl⟩
   rw[hwp] at hPX hbp hkp hop
   have hcp3:=hcp2.below hbp
   have hb5:=hb2.trans hbp
   have hk5:=hk2.trans hkp
   have hX5:=hX2.keep hkp
   obtain⟨_,p0,p1,p2,p3,p4,p5,p6⟩:=hPX
   have hnx:Hid (o++q.text=B2++(ps.take (j+1)).flatMap FT.text):=hide (by rw[FT.flat_take FT.text hp,hpre.out];simp)
   have hnl2:(o++q.text).length≤90000000:=by rw[hnx.out];have:=HLE.out (j+1);omega
   have hcall:=Hih.out q (List.mem_of_getElem? hp) wp _ o (o++q.text) _ _ _ _ _ _ _ (Nat.le_trans hbase hb5.size) (HMk.out.base hb5 hgb) hop hcp3 rfl hnl2
   have Hwp:=hide hwp
   clear HD HP Hih Hn hpre HLE HYL hp HD1 HP1 hparts hpart hcp2 hcp3 hwp hor hop hbr hb2 hk2 hX2 hbp hkp hnl2
   go_wp2_with (go_at_call 24;fail)
   rw[Hwp.out]
   refine hcall.mono ?_
   rintro e w3 ⟨v3,rfl,ho3,hb3,hk3⟩
   have hb7:=hb5.trans hb3
   have hk7:=hk5.trans hk3
   have hX7:=hX5.keep hk3
   clear hcall hb3 hb5 hk3 hk5 hX5 x0 x1 x2 x3 x4 x5 x6 p0 p1 p2 p3 p4 p5 p6 c0 c1 c2 c3 c4 c5 c6
   go_wp2
   go_roundg r
   case measure=>omega
   case rel=>exact⟨j+1,_,by omega,by go_num,hnx,ho3,hide ⟨hb7,hk7,hX7⟩⟩
theorem sig_at2 (W:World):(Instr.index 9 (.string ⟨#[38,124,33]⟩) (.int .i64 2)).run Tryz.prog W=.ok (.int .u8 33) W:=by
 rw[run_index_string (P:=Tryz.prog) W 9 _ .i64 2 Tryz.underlying9]
 rfl
theorem jtextp2_any (sa sv sf sl:ByteArray) (a v f l:List UInt8) (any:List (List UInt8)) (ps:List FT) (A:Option Addr) (m c:Nat) (D:Option Addr) (n d:Nat) (hn:ps.length=n) (hnl:n≤maxLen) (xs:List Value)
  (v0:Value) (p:List UInt8) (w:World) (base:Nat) (hbase:base≤w.heap.size) (hMk:Marks w) (hgb:0<base) (hown:w.ownsRow base 5 1 v0 p.length (bys p)) (hD:Has w base 7 D n xs) (hP:FsIn w base ps xs)
  (ih:∀q∈ps,∀(w:World) (v0:Value) (p ys:List UInt8) (u0 u1 u2 u3 u4 u5 u6:Value),base≤w.heap.size→Marks w→w.ownsRow base 5 1 v0 p.length (bys p)→FIn w base q [u0,u1,u2,u3,u4,u5,u6]→p++q.text=ys→ys.length≤90000000→Calls Tryz.prog 24 #[v0,.agg #[u0,u1,u2,u3,u4,u5,u6]] w (Wrote w base ys))
  (ys:List UInt8) (hys:p++FT.text (.mk 2 a v f l any ps)=ys) (hlen:ys.length≤90000000):
  Calls Tryz.prog 24 #[v0,.agg #[.int .i64 2,.string sa,.string sv,.string sf,.string sl,.slice A m c,.slice D n d]] w (Wrote w base ys):=by
 rw[FT.text_parts 2 a v f l any ps (by omega),show FT.head8 2=33 from rfl] at hys
 unfold maxLen at hnl
 have hni:(n:Int)≤9223372036854775807:=by omega
 have hX:=BoxF.new w 2 sa sv sf sl A m c D n d
 have hb0:Below base w (w.alloc (.cells #[.int .i64 2,.string sa,.string sv,.string sf,.string sl,.slice A m c,.slice D n d] 33)):=(Below.refl _ _).alloc hbase _
 have hk0:=KeepT.alloc w (.cells #[.int .i64 2,.string sa,.string sv,.string sf,.string sl,.slice A m c,.slice D n d] 33)
 have ho0:=hown.alloc (.cells #[.int .i64 2,.string sa,.string sv,.string sf,.string sl,.slice A m c,.slice D n d] 33)
 have hs0:=Nat.le_trans hbase hb0.size
 obtain⟨w1,hw1⟩:∃w1,w.alloc (.cells #[.int .i64 2,.string sa,.string sv,.string sf,.string sl,.slice A m c,.slice D n d] 33)=w1:=⟨_,rfl⟩
 rw[hw1] at hX hb0 hk0 ho0 hs0
 have hlp:=congrArg List.length hys
 simp only[List.length_append,List.length_cons,List.length_nil] at hlp
 obtain⟨_,c0,c1,c2,c3,c4,c5,c6⟩:=hX.box
 have hH1:Has (w1.alloc (.cells #[.int .u8 40] 5)) _ 1 _ 1 (bys [40]):=Has.own (one8 w1 40)
 have ho1:=ho0.alloc (.cells #[.int .u8 40] 5)
 have hb1:=hb0.alloc hs0 (.cells #[.int .u8 40] 5)
 have hk1:=hk0.trans (KeepT.alloc w1 (.cells #[.int .u8 40] 5))
 have hX1:=hX.keep (KeepT.alloc w1 (.cells #[.int .u8 40] 5))
 have hs1:=Nat.le_trans hbase hb1.size
 have hsg:=fun W=>sig_at2 W
 obtain⟨B1,hB1⟩:∃B1,p++[40]=B1:=⟨_,rfl⟩
 obtain⟨B2,hB2⟩:∃B2,B1++[33]=B2:=⟨_,rfl⟩
 have n1:p.length+1=B1.length:=by rw[←hB1];simp
 have n2:B1.length+1=B2.length:=by rw[←hB2];simp
 have hle:∀j,(B2++(ps.take j).flatMap FT.text).length+1≤ys.length:=fun j=>by
  have h1:=FT.flat_le FT.text ps j
  rw[List.length_append]
  omega
 have hyl:B2++ps.flatMap FT.text++[41]=ys:=by rw[←hB2,←hB1,←hys];simp
 have q1:=hide hB1
 have q2:=hide hB2
 have r1:=hide n1
 have r2:=hide n2
 have z1:p.length+1≤140737488355328:=by omega
 have z2:B1.length+1≤140737488355328:=by omega
 have HLE:=hide hle
 have HYL:=hide hyl
 have Hw1:=hide hw1
 have HMk:=hide hMk
 have HD:=hide hD
 have HP:=hide hP
 have Hih:=hide ih
 have Hn:=hide hn
 clear hys hw1 hMk hD hP ih hn hB1 hB2 n1 n2 hle hyl hlp hown
 go_enter Tryz.func24,Tryz.ntmps24
 go_upto_region 1 with fail
 rw[Hw1.out]
 clear Hw1
 go_wp2_with (at_builtin;go_must (refine app8k _ rfl (.tmp 7) (.tmp 8) rfl base _ _ p rfl ho1 _ _ 1 1 [40] rfl hH1 B1 q1 r1 z1 hs1 ?_))
 intro v2 w2 ho2 hb2 hk2
 have hX2:=hX1.keep hk2
 have hb3:=hb1.trans hb2
 have hk3:=hk1.trans hk2
 have hs2:=Nat.le_trans hbase hb3.size
 clear c0 c1 c2 c3 c4 c5 c6 ho0 ho1 hb0 hb1 hk0 hk1 hX hX1 hb2 hk2 hs0 hs1 hH1
 have hH3:Has (w2.alloc (.cells #[.int .u8 33] 5)) _ 1 _ 1 (bys [33]):=Has.own (one8 w2 33)
 have ho3:=ho2.alloc (.cells #[.int .u8 33] 5)
 have hb4:=hb3.alloc hs2 (.cells #[.int .u8 33] 5)
 have hk4:=hk3.trans (KeepT.alloc w2 (.cells #[.int .u8 33] 5))
 have hX3:=hX2.keep (KeepT.alloc w2 (.cells #[.int .u8 33] 5))
 have hs3:=Nat.le_trans hbase hb4.size
 obtain⟨_,c0,c1,c2,c3,c4,c5,c6⟩:=hX2.box
 obtain⟨_,e0,e1,e2,e3,e4,e5,e6⟩:=hX3.box
 clear ho2 hb3 hk3 hX2 hs2
 go_wp2_with (at_builtin;go_must (refine app8k _ rfl (.tmp 31) (.tmp 35) rfl base _ _ B1 rfl ho3 _ _ 1 1 [33] rfl hH3 B2 q2 r2 z2 hs3 ?_))
 intro v4 w4 ho4 hb5 hk5
 have hX4:=hX3.keep hk5
 have hb6:=hb4.trans hb5
 have hk6:=hk4.trans hk5
 clear c0 c1 c2 c3 c4 c5 c6 e0 e1 e2 e3 e4 e5 e6 ho3 hb4 hk4 hX3 hb5 hk5 hs3 hH3
 have HX4:=hide hX4
 obtain⟨_,c0,c1,c2,c3,c4,c5,c6⟩:=hX4.box
 clear hX4
 go_wp2
 go_loopg [0,40] n (fun r s0 s40 wx=>∃(j:Nat) (o:List UInt8),j+r=n∧s40=.int .i64 (j:Int)∧Hid (o=B2++(ps.take j).flatMap FT.text)∧wx.ownsRow base 5 1 s0 o.length (bys o)∧Hid (Below base w wx∧KeepT w wx∧BoxF wx w.heap.size 2 sa sv sf sl A m c D n d))
 case atStart=>exact⟨0,_,by omega,rfl,hide (by simp),ho4,hide ⟨hb6,hk6,HX4.out⟩⟩
 case round=>
  obtain⟨j,o,hjg,rfl,hpre,hor,hbr⟩:=hrel
  obtain⟨hb2,hk2,hX2⟩:=hbr.out
  clear HX4 hb6 hk6 ho4 c0 c1 c2 c3 c4 c5 c6
  obtain⟨_,c0,c1,c2,c3,c4,c5,c6⟩:=hX2.box
  have hsr:=Nat.le_trans hbase hb2.size
  have hol:Hid (o.length+1≤90000000):=hide (by have:=HLE.out j;rw[hpre.out];omega)
  cases gk with
  | zero=>
   obtain rfl:j=n:=by omega
   have hjz:¬((j:Int)<(j:Int)):=by omega
   have hq:Hid (o++[41]=ys):=hide (by
    rw[hpre.out,List.take_of_length_le (by rw[Hn.out];exact Nat.le_refl _)]
    exact HYL.out)
   have hql:Hid (o.length+1=ys.length):=hide (by rw[←hq.out];simp)
   have zq:o.length+1≤140737488355328:=by have:=hol.out;omega
   have hH10:Has (wr.alloc (.cells #[.int .u8 41] 5)) _ 1 _ 1 (bys [41]):=Has.own (one8 wr 41)
   have ho10:=hor.alloc (.cells #[.int .u8 41] 5)
   have hb15:=hb2.alloc hsr (.cells #[.int .u8 41] 5)
   have hk15:=hk2.trans (KeepT.alloc wr (.cells #[.int .u8 41] 5))
   have hs10:=Nat.le_trans hbase hb15.size
   clear HD HP Hih Hn hpre HLE HYL hor hb2 hk2 hX2 hbr
   go_wp2_with (at_builtin;go_must (refine app8k _ rfl (.tmp 48) (.tmp 49) rfl base _ _ o rfl ho10 _ _ 1 1 [41] rfl hH10 ys hq hql zq hs10 ?_))
   intro v11 w11 ho11 hb16 hk16
   have hb17:=hb15.trans hb16
   have hk17:=hk15.trans hk16
   clear ho10 hb15 hk15 hb16 hk16 hs10 hH10
   go_wp2
   go_ret
   exact⟨_,rfl,ho11,hb17,hk17⟩
  | succ r=>
   have hj:j<n:=by omega
   have hjz:(j:Int)<(n:Int):=by omega
   obtain⟨q,hp⟩:∃q,ps[j]?=some q:=⟨_,List.getElem?_eq_getElem (by rw[Hn.out];exact hj)⟩
   have HD1:=HD.out
   have HP1:=HP.out
   rw[←Hn.out] at HD1
   obtain⟨g,oo,hDe,hg,hparts⟩:=HD1.part HP1 (fun h=>by rw[h] at hp;simp at hp)
   subst hDe
   obtain⟨u0,u1,u2,u3,u4,u5,u6,hpart⟩:=hparts j q hp
   obtain⟨pk,pa,pv,pf,pl,pA,pm,pc,pD,pn,pd,rfl,rfl,rfl,rfl,rfl,rfl,rfl⟩:=hpart.fin.shape
   obtain⟨hcp2,_,x0,x1,x2,x3,x4,x5,x6⟩:=hpart.below hb2
   have hPX:=Box7.new wr pk pa pv pf pl pA pm pc pD pn pd 33
   have hbp:Below base wr (wr.alloc (.cells #[.int .i64 pk,.string pa,.string pv,.string pf,.string pl,.slice pA pm pc,.slice pD pn pd] 33)):=(Below.refl _ _).alloc hsr _
   have hkp:=KeepT.alloc wr (.cells #[.int .i64 pk,.string pa,.string pv,.string pf,.string pl,.slice pA pm pc,.slice pD pn pd] 33)
   have hop:=hor.alloc (.cells #[.int .i64 pk,.string pa,.string pv,.string pf,.string pl,.slice pA pm pc,.slice pD pn pd] 33)
   obtain⟨wp,hwp⟩:∃wp,wr.alloc (.cells #[.int .i64 pk,.string pa,.string pv,.string pf,.string pl,.slice pA pm pc,.slice pD pn pd] 33)=wp:=⟨_,rfl⟩
   rw[hwp] at hPX hbp hkp hop
   have hcp3:=hcp2.below hbp
   have hb5:=hb2.trans hbp
   have hk5:=hk2.trans hkp
   have hX5:=hX2.keep hkp
   obtain⟨_,p0,p1,p2,p3,p4,p5,p6⟩:=hPX
   have hnx:Hid (o++q.text=B2++(ps.take (j+1)).flatMap FT.text):=hide (by rw[FT.flat_take FT.text hp,hpre.out];simp)
   have hnl2:(o++q.text).length≤90000000:=by rw[hnx.out];have:=HLE.out (j+1);omega
   have hcall:=Hih.out q (List.mem_of_getElem? hp) wp _ o (o++q.text) _ _ _ _ _ _ _ (Nat.le_trans hbase hb5.size) (HMk.out.base hb5 hgb) hop hcp3 rfl hnl2
   have Hwp:=hide hwp
   clear HD HP Hih Hn hpre HLE HYL hp HD1 HP1 hparts hpart hcp2 hcp3 hwp hor hop hbr hb2 hk2 hX2 hbp hkp hnl2
   go_wp2_with (go_at_call 24;fail)
   rw[Hwp.out]
   refine hcall.mono ?_
   rintro e w3 ⟨v3,rfl,ho3,hb3,hk3⟩
   have hb7:=hb5.trans hb3
   have hk7:=hk5.trans hk3
   have hX7:=hX5.keep hk3
   clear hcall hb3 hb5 hk3 hk5 hX5 x0 x1 x2 x3 x4 x5 x6 p0 p1 p2 p3 p4 p5 p6 c0 c1 c2 c3 c4 c5 c6
   go_wp2
   go_roundg r
   case measure=>omega
   case rel=>exact⟨j+1,_,by omega,by go_num,hnx,ho3,hide ⟨hb7,hk7,hX7⟩⟩
theorem jtext_any (t:FT):t.all=true→∀(base:Nat),0<base→∀(w:World) (v0:Value) (p ys:List UInt8) (u0 u1 u2 u3 u4 u5 u6:Value),base≤w.heap.size→Marks w→w.ownsRow base 5 1 v0 p.length (bys p)→FIn w base t [u0,u1,u2,u3,u4,u5,u6]→p++t.text=ys→ys.length≤90000000→Calls Tryz.prog 24 #[v0,.agg #[u0,u1,u2,u3,u4,u5,u6]] w (Wrote w base ys):=by
 induction t using FT.induct
 rename_i k a v f l any ps ih
 intro hall base hgb w v0 p ys u0 u1 u2 u3 u4 u5 u6 hbase hMk hown hF hys hlen
 simp only[FIn] at hF
 obtain⟨A,c,D,dd,xs,hcs,⟨hml,hnl⟩,hA,hD,hP⟩:=hF
 cases hcs
 rw[FT.all_mk,Bool.and_eq_true] at hall
 obtain⟨hbr,hpa⟩:=hall
 have hB:=FT.bare_is hbr
 have hih:=fun q hq=>ih q hq (List.all_eq_true.1 hpa q hq) base hgb
 have la:=hB.la
 have lv:=hB.lv
 have lf:=hB.lf
 have ll:=hB.ll
 have one:=fun hk=>jtexto_any k hk (txt a) (txt v) (txt f) (txt l) a v f l any ps rfl rfl rfl rfl A any.length c D ps.length dd rfl hml v0 p w base hbase hMk hgb hown hA (by omega) (by omega) (by omega) (by omega) (fun x hx=>by have:=hB.lx x hx;omega) ys hys hlen
 rcases hB.kind with rfl | rfl | rfl | rfl | rfl | rfl | rfl | rfl | rfl
 ·exact jtextp0_any (txt a) (txt v) (txt f) (txt l) a v f l any ps A any.length c D ps.length dd rfl hnl xs v0 p w base hbase hMk hgb hown hD hP hih ys hys hlen
 ·exact jtextp1_any (txt a) (txt v) (txt f) (txt l) a v f l any ps A any.length c D ps.length dd rfl hnl xs v0 p w base hbase hMk hgb hown hD hP hih ys hys hlen
 ·exact jtextp2_any (txt a) (txt v) (txt f) (txt l) a v f l any ps A any.length c D ps.length dd rfl hnl xs v0 p w base hbase hMk hgb hown hD hP hih ys hys hlen
 all_goals exact one (by omega)
end Go.Proofs.YtaolhefllfnmiaaGreatDoor
namespace Go.Proofs.YtaolhefllfnmiaaGreatDoor
open Go.RowKit
set_option linter.unusedVariables false
theorem jfprint_any (t:FT) (hlen:t.formed=true→t.text.length≤10000000) (w:World) (u0 u1 u2 u3 u4 u5 u6:Value) (hF:FIn w w.heap.size t [u0,u1,u2,u3,u4,u5,u6]) (hMk:Marks w):
  Calls Tryz.prog 9 #[.agg #[u0,u1,u2,u3,u4,u5,u6]] w fun e w'=>e=.returned (.tuple #[.string (txt t.printV.1),.int .i64 t.printV.2])∧Below w.heap.size w w':=by
 have hF0:=hF
 cases t with
 | mk k a v f l any ps=>
 simp only[FIn] at hF
 obtain⟨A,c,D,dd,xs,hcs,_⟩:=hF
 cases hcs
 obtain⟨m,hm⟩:∃m,any.length=m:=⟨_,rfl⟩
 obtain⟨np,hnp⟩:∃np,ps.length=np:=⟨_,rfl⟩
 have hX:=Box7.new w k (txt a) (txt v) (txt f) (txt l) A any.length c D ps.length dd 33
 have hb0:=below1 w (.cells #[.int .i64 k,.string (txt a),.string (txt v),.string (txt f),.string (txt l),.slice A any.length c,.slice D ps.length dd] 33)
 rw[hm,hnp] at hX hb0 hF0 ⊢
 obtain⟨t0,ht0⟩:∃t0,FT.mk k a v f l any ps=t0:=⟨_,rfl⟩
 rw[ht0] at hF0 hlen ⊢
 have hF1:=hF0.grow hb0
 have hFo:=jFormed_any t0 _ _ _ _ _ _ _ _ hF1
 have HX:=hide hX
 have Hb0:=hide hb0
 have hTx:=fun h1 (h2:t0.text.length≤10000000) (w2:World) (h:FIn w2 w2.heap.size t0 [.int .i64 k,.string (txt a),.string (txt v),.string (txt f),.string (txt l),.slice A m c,.slice D np dd]) (hM:Marks w2) (ho:w2.ownsRow w2.heap.size 5 1 (.slice none 0 0) ([]:List UInt8).length (bys []))=>jtext_any t0 h1 w2.heap.size hM.lt w2 (.slice none 0 0) [] t0.text _ _ _ _ _ _ _ (Nat.le_refl _) hM ho h rfl (by omega)
 have HMk:Hid (∀w2,Below w.heap.size w w2→Marks w2):=hide (fun w2 hb=>hMk.below hb)
 clear hMk
 clear hF0 hm hnp ht0
 generalize txt a=sa at *
 generalize txt v=sv at *
 generalize txt f=sf at *
 generalize txt l=sl at *
 obtain⟨_,c0,c1,c2,c3,c4,c5,c6⟩:=hX
 cases hfo:t0.formed with
 | false=>
  have hv:t0.printV=([],1):=by unfold FT.printV;rw[hfo];rfl
  rw[hv]
  rw[hfo] at hFo
  clear hTx hv hfo hlen hF1
  go_enter Tryz.func9,Tryz.ntmps9
  go_wp2_with (go_at_call 12;fail)
  refine hFo.mono ?_
  rintro e w2 ⟨rfl,hb2⟩
  have hb3:=Hb0.out.trans (hb2.mono Hb0.out.size)
  clear hFo hb2 hb0 c0 c1 c2 c3 c4 c5 c6
  go_wp2
  go_ret2
  exact⟨rfl,hb3⟩
 | true=>
  have hv:t0.printV=(t0.text,0):=by unfold FT.printV;rw[hfo];rfl
  have hall:t0.all=true:=by unfold FT.formed at hfo;simp only[Bool.and_eq_true] at hfo;exact hfo.2
  rw[hv]
  rw[hfo] at hFo
  have hl:=hlen hfo
  clear hv hfo hlen
  simp only
  have hTx2:=fun w h=>hTx hall hl w h
  obtain⟨Y,hY⟩:∃Y,txt t0.text=Y:=⟨_,rfl⟩
  rw[hY]
  have HY:=hide hY
  clear hY
  clear hTx
  go_enter Tryz.func9,Tryz.ntmps9
  go_wp2_with (go_at_call 12;fail)
  refine hFo.mono ?_
  rintro e w2 ⟨rfl,hb2⟩
  have hX2:=HX.out.below HX.out.lt hb2
  have hT2:=hTx2 w2 (hF1.grow hb2)
  have hb3:=Hb0.out.trans (hb2.mono Hb0.out.size)
  clear hFo hb2 hb0 c0 c1 c2 c3 c4 c5 c6 hTx2 hF1 HX Hb0
  obtain⟨_,c0,c1,c2,c3,c4,c5,c6⟩:=hX2
  have hown:w2.ownsRow w2.heap.size 5 1 (.slice none 0 0) ([]:List UInt8).length (bys []):=nil_own _ _ _ _
  have hcall:=hT2 (HMk.out w2 hb3) hown
  clear hT2 hown
  go_wp2_with (go_at_call 24;fail)
  refine hcall.mono ?_
  rintro e w4 ⟨v4,rfl,ho4,hb4,_⟩
  have hb5:=hb3.trans (hb4.mono hb3.size)
  obtain⟨A4,c4',rfl,hnc,hHas⟩:=own_form ho4
  have htx:=txt8 w4 c4' hHas
  rw[HY.out] at htx
  clear hcall hb4 hb3 ho4 hHas hnc c0 c1 c2 c3 c4 c5 c6
  go_wp2
  go_ret2
  exact⟨rfl,hb5⟩
end Go.Proofs.YtaolhefllfnmiaaGreatDoor
namespace Go.Proofs.YtaolhefllfnmiaaGreatDoor
open Go.RowKit
set_option linter.unusedVariables false
theorem jmap_txt_inj {T U:List (List UInt8)} (h:T.map txt=U.map txt):T=U:=by
 have:=congrArg (List.map fun x:ByteArray=>x.data.toList) h
 rw[List.map_map,List.map_map] at this
 have e:((fun x:ByteArray=>x.data.toList) ∘ txt)=id:=by funext x;exact txt_toList x
 rw[e,List.map_id,List.map_id] at this
 exact this
theorem jtexts_getD {T:List (List UInt8)} {w:World} {g o:Nat} (h:∀(i:Nat) (x:List UInt8),T[i]?=some x→w.cell? ⟨g,o+i,none⟩=some (.string (txt x))):
  ∀j,j<(T.map txt).length→w.cell? ⟨g,o+j,none⟩=some (.string ((T.map txt).getD j ByteArray.empty)):=by
 intro j hj
 rw[List.length_map] at hj
 rw[h j T[j] (List.getElem?_eq_getElem hj)]
 simp[List.getD_eq_getElem?_getD,hj]
open Classical in
theorem jequal_any (w:World) (A B:Option Addr) (n c m d:Nat) (T U:List (List UInt8)) (hA:Has w w.heap.size 1 A n (strs T)) (hB:Has w w.heap.size 1 B m (strs U)) (hn:n≤1000000):
  Calls Tryz.prog 30 #[.slice A n c,.slice B m d] w fun e w'=>e=.returned (.bool (decide (T=U)))∧Below w.heap.size w w':=by
 have h1:=hA.strs_n
 have h2:=hB.strs_n
 by_cases hnm:n=m
 ·have hm:m≤1000000:=by omega
  by_cases hT:T=[]
  ·subst hT
   obtain rfl:n=0:=by simpa using h1
   subst hnm
   obtain rfl:U=[]:=List.eq_nil_of_length_eq_zero h2.symm
   refine (Tryz.slices_Equal_string_empty A B c 0 d w (by omega)).mono ?_
   rintro e w' ⟨rfl,rfl⟩
   exact⟨by simp,Below.refl _ _⟩
  ·have hU:U≠[]:=by
    rintro rfl
    exact hT (List.eq_nil_of_length_eq_zero (by rw[←h1,hnm,h2];rfl))
   obtain⟨g1,o1,rfl,_,hc1⟩:=hA.texts hT
   obtain⟨g2,o2,rfl,_,hc2⟩:=hB.texts hU
   refine (Tryz.slices_Equal_string g1 o1 n c g2 o2 m d (T.map txt) (U.map txt) w (by rw[List.length_map];omega) (by rw[List.length_map];omega) (by omega) (by omega) (jtexts_getD hc1) (jtexts_getD hc2)).mono ?_
   rintro e w' ⟨rfl,q,rfl⟩
   refine⟨?_,Below.drewN (Below.refl _ _) q⟩
   rw[List.take_of_length_le (by rw[List.length_map];omega),List.take_of_length_le (by rw[List.length_map];omega)]
   by_cases h:T=U
   ·subst h;simp
   ·have h':¬T.map txt=U.map txt:=fun e=>h (jmap_txt_inj e)
    rw[decide_eq_false h,decide_eq_false h']
 ·refine (Tryz.slices_Equal_string_lens A B n c m d w hnm).mono ?_
  rintro e w' ⟨rfl,rfl⟩
  have:¬T=U:=fun h=>hnm (by rw[h1,h2,h])
  exact⟨by rw[decide_eq_false this],Below.refl _ _⟩
open Classical in
noncomputable def FT.eqB (t t':FT):Bool:=decide (t=t')
open Classical in
noncomputable def FT.eqsB (t t':List FT):Bool:=decide (t=t')
theorem FT.eqB_iff {t t':FT}:FT.eqB t t'=true↔t=t':=by unfold FT.eqB;simp
theorem FT.eqsB_iff {t t':List FT}:FT.eqsB t t'=true↔t=t':=by unfold FT.eqsB;simp
theorem jequalf_any (g:Nat) (lb:Array Value) (eg:∀args w,(callFunc g args).run Tryz.prog w=.ok (.enter g args) w) (ps ps':List FT) (w:World) (D D':Option Addr) (n n' d d':Nat) (xs xs':List Value)
  (hD:Has w w.heap.size 7 D n xs) (hP:FsIn w w.heap.size ps xs) (hD':Has w w.heap.size 7 D' n' xs') (hP':FsIn w w.heap.size ps' xs') (hn:ps.length=n) (hn':ps'.length=n') (hnl:n≤9223372036854775807) (hnl':n'≤9223372036854775807)
  (hp:∀p∈ps,∀(q:FT) (W:World) (u0 u1 u2 u3 u4 u5 u6 v0 v1 v2 v3 v4 v5 v6:Value),Below w.heap.size w W→FIn W W.heap.size p [u0,u1,u2,u3,u4,u5,u6]→FIn W W.heap.size q [v0,v1,v2,v3,v4,v5,v6]→
   Calls Tryz.prog g (#[.agg #[u0,u1,u2,u3,u4,u5,u6],.agg #[v0,v1,v2,v3,v4,v5,v6]]++lb) W fun e w'=>e=.returned (.bool (FT.eqB p q))∧Below W.heap.size W w'):
  Calls Tryz.prog 31 #[.slice D n d,.slice D' n' d',.func (.func g) #[] lb] w fun e w'=>e=.returned (.bool (FT.eqsB ps ps'))∧Below w.heap.size w w':=by
 obtain⟨R,hR⟩:∃R,FT.eqsB ps ps'=R:=⟨_,rfl⟩
 have hRy:ps=ps'→R=true:=fun h=>by rw[←hR];exact FT.eqsB_iff.2 h
 have hRn:ps≠ps'→R=false:=fun h=>by
  cases hb:R with
  | false=>rfl
  | true=>rw[hb] at hR;exact absurd (FT.eqsB_iff.1 hR) h
 rw[hR]
 have hni:(n:Int)≤9223372036854775807:=by omega
 have hni':(n':Int)≤9223372036854775807:=by omega
 by_cases hnn:n=n'
 ·subst hnn
  have HRy:=hide hRy
  have HRn:=hide hRn
  have HD:=hide hD
  have HP:=hide hP
  have HD':=hide hD'
  have HP':=hide hP'
  have HN:=hide hn
  have HN':=hide hn'
  have HC:=hide hp
  clear hD hP hD' hP' hn hn' hp hR hRy hRn
  go_enter Tryz.func31,Tryz.ntmps31
  go_wp2
  go_loopg [17] n (fun r s17 wx=>∃j:Nat,j+r=n∧s17=.int .i64 (j:Int)∧Hid (ps.take j=ps'.take j)∧Hid (Below w.heap.size w wx))
  case atStart=>exact⟨0,by omega,rfl,hide rfl,hide (Below.refl _ _)⟩
  case round=>
   obtain⟨j,hjg,rfl,hpre,hbr⟩:=hrel
   have hb2:=hbr.out
   cases gk with
   | zero=>
    obtain rfl:j=n:=by omega
    have hjz:¬((j:Int)<(j:Int)):=by omega
    have hq:Hid (R=true):=hide (HRy.out (by
     have:=hpre.out
     rwa [List.take_of_length_le (by rw[HN.out];exact Nat.le_refl _),List.take_of_length_le (by rw[HN'.out];exact Nat.le_refl _)] at this))
    clear HD HP HD' HP' HN HN' hpre HRy HRn HC
    go_wp2
    go_ret
    exact⟨by rw[hq.out];rfl,hb2⟩
   | succ r=>
    have hj:j<n:=by omega
    have hjz:(j:Int)<(n:Int):=by omega
    obtain⟨p,hp⟩:∃p,ps[j]?=some p:=⟨_,List.getElem?_eq_getElem (by rw[HN.out];exact hj)⟩
    obtain⟨q,hq⟩:∃q,ps'[j]?=some q:=⟨_,List.getElem?_eq_getElem (by rw[HN'.out];exact hj)⟩
    have HD1:=HD.out
    have HP1:=HP.out
    have HD2:=HD'.out
    have HP2:=HP'.out
    rw[←HN.out] at HD1
    rw[←HN'.out] at HD2
    obtain⟨g1,o1,hDe,hg,hparts⟩:=HD1.part HP1 (fun h=>by rw[h] at hp;simp at hp)
    obtain⟨g2,o2,hDe',hg',hparts'⟩:=HD2.part HP2 (fun h=>by rw[h] at hq;simp at hq)
    subst hDe hDe'
    obtain⟨u0,u1,u2,u3,u4,u5,u6,hpart⟩:=hparts j p hp
    obtain⟨v0,v1,v2,v3,v4,v5,v6,hpart'⟩:=hparts' j q hq
    obtain⟨pk,pa,pv,pf,pl,pA,pm,pc,pD,pn,pd,rfl,rfl,rfl,rfl,rfl,rfl,rfl⟩:=hpart.fin.shape
    obtain⟨qk,qa,qv,qf,ql,qA,qm,qc,qD,qn,qd,rfl,rfl,rfl,rfl,rfl,rfl,rfl⟩:=hpart'.fin.shape
    obtain⟨hcp2,_,x0,x1,x2,x3,x4,x5,x6⟩:=hpart.below hb2
    replace hcp2:=hcp2.upto hb2.size
    have hPX:=Box7.new wr pk pa pv pf pl pA pm pc pD pn pd 33
    have hbp:=below1 wr (.cells #[.int .i64 pk,.string pa,.string pv,.string pf,.string pl,.slice pA pm pc,.slice pD pn pd] 33)
    obtain⟨wp,hwp⟩:∃wp,wr.alloc (.cells #[.int .i64 pk,.string pa,.string pv,.string pf,.string pl,.slice pA pm pc,.slice pD pn pd] 33)=wp:=⟨_,rfl⟩
    have hsz:wp.heap.size=wr.heap.size+1:=by rw[←hwp];simp
    rw[hwp] at hPX hbp
    have hb3:=hb2.trans (hbp.mono hb2.size)
    have hcp3:=hcp2.grow hbp
    obtain⟨hcq3,_,y0,y1,y2,y3,y4,y5,y6⟩:=hpart'.below hb3
    replace hcq3:=hcq3.upto hb3.size
    have hQX:=Box7.new wp qk qa qv qf ql qA qm qc qD qn qd 33
    have hbq:=below1 wp (.cells #[.int .i64 qk,.string qa,.string qv,.string qf,.string ql,.slice qA qm qc,.slice qD qn qd] 33)
    obtain⟨wq,hwq⟩:∃wq,wp.alloc (.cells #[.int .i64 qk,.string qa,.string qv,.string qf,.string ql,.slice qA qm qc,.slice qD qn qd] 33)=wq:=⟨_,rfl⟩
    rw[hwq] at hQX hbq
    have hb4:=hb3.trans (hbq.mono hb3.size)
    have hcp4:=hcp3.grow hbq
    have hcq4:=hcq3.grow hbq
    have hPX4:=hPX.below hPX.lt hbq
    rw[hsz] at hQX
    have hcall:=HC.out p (List.mem_of_getElem? hp) q wq _ _ _ _ _ _ _ _ _ _ _ _ _ _ hb4 hcp4 hcq4
    obtain⟨bb,hbb⟩:∃bb,FT.eqB p q=bb:=⟨_,rfl⟩
    have hyes:bb=true→Hid (ps.take (j+1)=ps'.take (j+1)):=fun h=>hide (by
     rw[←hbb] at h
     rw[List.take_add_one,List.take_add_one,hpre.out,hp,hq,FT.eqB_iff.1 h])
    have hno:bb=false→Hid (R=false):=fun h=>hide (HRn.out (fun e=>by
     rw[e,hq] at hp
     have:=FT.eqB_iff.2 (Option.some.inj hp).symm
     rw[hbb,h] at this
     cases this))
    rw[hbb] at hcall
    have HYes:=hide hyes
    have HNo:=hide hno
    have Hwp:=hide hwp
    have Hwq:=hide hwq
    have Hsz:=hide hsz
    have HPX4:=hide hPX4
    have HQX:=hide hQX
    have Hb4:=hide hb4
    obtain⟨_,p0,p1,p2,p3,p4,p5,p6⟩:=hPX
    clear HD HP HD' HP' HN HN' hpre HRy HRn HC hp hq HD1 HP1 HD2 HP2 hparts hparts' hpart hpart' hcp2 hcp3 hcp4 hcq3 hcq4 hyes hno hwp hwq hsz hPX4 hQX hb4 hb3 hbp hbq hbr hb2 hbb
    go_upto_region 6 with fail
    rw[Hwp.out]
    go_upto_region 7 with fail
    (try rw[Hsz.out])
    rw[Hwq.out]
    obtain⟨_,a0,a1,a2,a3,a4,a5,a6⟩:=HPX4.out
    obtain⟨_,b0,b1,b2,b3,b4,b5,b6⟩:=HQX.out
    go_wp2_with (go_at_fn g;fail)
    refine hcall.mono ?_
    rintro e w5 ⟨rfl,hb5⟩
    have hb6:=hide (Hb4.out.trans (hb5.mono Hb4.out.size))
    clear hcall hb5 x0 x1 x2 x3 x4 x5 x6 y0 y1 y2 y3 y4 y5 y6 p0 p1 p2 p3 p4 p5 p6 a0 a1 a2 a3 a4 a5 a6 b0 b1 b2 b3 b4 b5 b6 HPX4 HQX Hb4
    cases bb with
    | false=>
     have hbf:=HNo.out rfl
     clear HYes HNo
     go_wp2
     go_ret
     exact⟨by rw[hbf.out];rfl,hb6.out⟩
    | true=>
     have hst:=HYes.out rfl
     clear HYes HNo
     go_wp2
     go_roundg r
     case measure=>omega
     case rel=>exact⟨j+1,by omega,by go_num,hst,hb6⟩
 ·have z1:((n:Int)==(n':Int))=false:=beq_false_of_ne (by omega)
  have z2:((n:Int)!=(n':Int))=true:=by unfold bne;rw[z1];rfl
  obtain rfl:=hRn (fun h=>hnn (by rw[←hn,←hn',h]))
  clear hD hP hD' hP' hp hR hRy hRn hn hn' hnn
  go_enter Tryz.func31,Tryz.ntmps31
  go_wp2
  go_ret
  exact⟨rfl,Below.refl _ _⟩
end Go.Proofs.YtaolhefllfnmiaaGreatDoor
namespace Go.Proofs.YtaolhefllfnmiaaGreatDoor
open Go.RowKit
set_option linter.unusedVariables false
theorem jsame_any (t:FT):t.wee→∀(t':FT) (w:World) (u0 u1 u2 u3 u4 u5 u6 v0 v1 v2 v3 v4 v5 v6:Value),FIn w w.heap.size t [u0,u1,u2,u3,u4,u5,u6]→FIn w w.heap.size t' [v0,v1,v2,v3,v4,v5,v6]→
  ∀b:Bool,(b=true↔t=t')→
  Calls Tryz.prog 16 #[.agg #[u0,u1,u2,u3,u4,u5,u6],.agg #[v0,v1,v2,v3,v4,v5,v6]] w fun e w'=>e=.returned (.bool b)∧Below w.heap.size w w':=by
 induction t using FT.induct
 rename_i k a v f l any ps ih
 intro hwee t' w u0 u1 u2 u3 u4 u5 u6 v0 v1 v2 v3 v4 v5 v6 hF hF' b hb
 cases t' with
 | mk k' a' v' f' l' any' ps'=>
 simp only[FT.wee] at hwee
 simp only[FIn] at hF hF'
 obtain⟨A,c,D,dd,xs,hcs,⟨hml,hnl⟩,hA,hD,hP⟩:=hF
 cases hcs
 obtain⟨A',c',D',dd',xs',hcs,⟨hml',hnl'⟩,hA',hD',hP'⟩:=hF'
 cases hcs
 obtain⟨m,hm⟩:∃m,any.length=m:=⟨_,rfl⟩
 obtain⟨np,hnp⟩:∃np,ps.length=np:=⟨_,rfl⟩
 obtain⟨m',hm'⟩:∃m',any'.length=m':=⟨_,rfl⟩
 obtain⟨np',hnp'⟩:∃np',ps'.length=np':=⟨_,rfl⟩
 have hX:=Box7.new w k (txt a) (txt v) (txt f) (txt l) A any.length c D ps.length dd 33
 have hb0:=below1 w (.cells #[.int .i64 k,.string (txt a),.string (txt v),.string (txt f),.string (txt l),.slice A any.length c,.slice D ps.length dd] 33)
 obtain⟨w1,hw1⟩:∃w1,(w.alloc (.cells #[.int .i64 k,.string (txt a),.string (txt v),.string (txt f),.string (txt l),.slice A any.length c,.slice D ps.length dd] 33))=w1:=⟨_,rfl⟩
 have hsz:w1.heap.size=w.heap.size+1:=by rw[←hw1];simp
 rw[hw1] at hX hb0
 have hY:=Box7.new w1 k' (txt a') (txt v') (txt f') (txt l') A' any'.length c' D' ps'.length dd' 33
 have hb1:=below1 w1 (.cells #[.int .i64 k',.string (txt a'),.string (txt v'),.string (txt f'),.string (txt l'),.slice A' any'.length c',.slice D' ps'.length dd'] 33)
 have hX1:=hX.below hX.lt hb1
 have hb2:=hb0.trans (hb1.mono hb0.size)
 have hTx:=fun (W:World) hA hA'=>jequal_any W A A' any.length c any'.length c' any any' hA hA' (by omega)
 have hEx:=fun (W:World) (hb:Below w.heap.size w W)=>jequalf_any 16 #[] (fun _ _=>rfl) ps ps' W D D' ps.length ps'.length dd dd' xs xs' ((hD.below hb).upto hb.size) ((hP.below hb).upto hb.size) ((hD'.below hb).upto hb.size) ((hP'.below hb).upto hb.size) rfl rfl (by unfold maxLen at hnl;omega) (by unfold maxLen at hnl';omega) (fun p hp q W2 u0 u1 u2 u3 u4 u5 u6 v0 v1 v2 v3 v4 v5 v6 hb2 h1 h2=>ih p hp (FT.weeL_mem hwee.2.2 p hp) q W2 u0 u1 u2 u3 u4 u5 u6 v0 v1 v2 v3 v4 v5 v6 h1 h2 (FT.eqB p q) FT.eqB_iff)
 unfold maxLen at hml hnl hml' hnl'
 rw[hm,hm'] at hTx
 rw[hnp,hnp'] at hEx
 rw[hm,hnp] at hX1 hw1 ⊢
 rw[hm',hnp'] at hY hb1 hb2 hX1 ⊢
 rw[hsz] at hY
 have hnl1:(np:Int)≤9223372036854775807:=by omega
 have hA2:=(hA.below hb2).upto hb2.size
 have hA2':=(hA'.below hb2).upto hb2.size
 rw[hm] at hA2
 rw[hm'] at hA2'
 have hw2:∃w2,w1.alloc (.cells #[.int .i64 k',.string (txt a'),.string (txt v'),.string (txt f'),.string (txt l'),.slice A' m' c',.slice D' np' dd'] 33)=w2:=⟨_,rfl⟩
 obtain⟨w2,hw2⟩:=hw2
 have HW1:=hide hw1
 have HW2:=hide hw2
 rw[hw2] at hX1 hY hb2 hA2 hA2'
 have HX:=hide hX1
 have HY:=hide hY
 have HB:=hide hb2
 have HD:=hide hD
 have HP:=hide hP
 have HD':=hide hD'
 have HP':=hide hP'
 have Hih:=hide ih
 have Hnp:=hide hnp
 have Hnp':=hide hnp'
 have HTx:=hide (hTx w2 hA2 hA2')
 have HEx:=hide hEx
 have Hb:=hide hb
 have HSz:=hide hsz
 have inj:=fun h=>FT.mk.inj (hb.1 h)
 clear hEx hwee hD hP hD' hP' ih hnp hnp' hTx hA hA' hA2 hA2' hb hm hm' hml hnl hml' hnl' hX hb0 hb1 hb2 hw1 hw2
 obtain⟨_,c0,c1,c2,c3,c4,c5,c6⟩:=hX1
 obtain⟨_,d0,d1,d2,d3,d4,d5,d6⟩:=hY
 by_cases h0:k=k'
 ·subst h0
  by_cases h1:a=a'
  ·subst h1
   by_cases h2:v=v'
   ·subst h2
    by_cases h3:f=f'
    ·subst h3
     by_cases h4:l=l'
     ·subst h4
      by_cases h5:any=any'
      ·have hbf:Hid (b=FT.eqsB ps ps'):=hide (by
        rw[Bool.eq_iff_iff,Hb.out,FT.eqsB_iff]
        exact⟨fun h=>(FT.mk.inj h).2.2.2.2.2.2,fun h=>by rw[h5,h]⟩)
       have hcall:=HTx.out
       rw[decide_eq_true h5] at hcall
       obtain⟨R,hR⟩:∃R,FT.eqsB ps ps'=R:=⟨_,rfl⟩
       rw[hR] at hbf
       have HR:=hide hR
       clear HTx inj h5 hR
       clear HD HP HD' HP' Hih Hnp Hnp' Hb
       generalize txt a=sa at *
       generalize txt v=sv at *
       generalize txt f=sf at *
       generalize txt l=sl at *
       go_enter Tryz.func16,Tryz.ntmps16
       go_upto_region 1 with fail
       rw[HW1.out,HW2.out]
       (try rw[HSz.out])
       go_wp2_with (go_at_call 30;fail)
       refine hcall.mono ?_
       rintro e w3 ⟨rfl,hb3⟩
       have HX3:=hide (HX.out.below HX.out.lt hb3)
       have HY3:=hide (HY.out.below HY.out.lt hb3)
       have HB3:=hide (HB.out.trans (hb3.mono HB.out.size))
       have hcall2:=HEx.out w3 HB3.out
       rw[HR.out] at hcall2
       clear hcall hb3 HX HY HB HEx HR c0 c1 c2 c3 c4 c5 c6 d0 d1 d2 d3 d4 d5 d6
       obtain⟨_,c0,c1,c2,c3,c4,c5,c6⟩:=HX3.out
       obtain⟨_,d0,d1,d2,d3,d4,d5,d6⟩:=HY3.out
       go_wp2_with (go_at_call 31;fail)
       refine hcall2.mono ?_
       rintro e w5 ⟨rfl,hb5⟩
       have HB5:=hide (HB3.out.trans (hb5.mono HB3.out.size))
       clear hcall2 hb5 HX3 HY3 HB3 c0 c1 c2 c3 c4 c5 c6 d0 d1 d2 d3 d4 d5 d6
       go_wp2
       go_ret
       exact⟨by rw[hbf.out];rfl,HB5.out⟩
      ·have hcall:=HTx.out
       rw[decide_eq_false h5] at hcall
       have hbf:Hid (b=false):=hide (by
        cases hbb:b with
        | false=>rfl
        | true=>exact absurd (inj hbb).2.2.2.2.2.1 h5)
       clear HTx HEx inj h5
       clear HD HP HD' HP' Hih Hnp Hnp' Hb
       generalize txt a=sa at *
       generalize txt v=sv at *
       generalize txt f=sf at *
       generalize txt l=sl at *
       go_enter Tryz.func16,Tryz.ntmps16
       go_upto_region 1 with fail
       rw[HW1.out,HW2.out]
       (try rw[HSz.out])
       go_wp2_with (go_at_call 30;fail)
       refine hcall.mono ?_
       rintro e w3 ⟨rfl,hb3⟩
       have HB3:=hide (HB.out.trans (hb3.mono HB.out.size))
       clear hcall hb3 HX HY HB c0 c1 c2 c3 c4 c5 c6 d0 d1 d2 d3 d4 d5 d6
       go_wp2
       go_ret
       exact⟨by rw[hbf.out];rfl,HB3.out⟩
     ·have e1:=str_ne h4
      have hbf:Hid (b=false):=hide (by
       cases hbb:b with
       | false=>rfl
       | true=>exact absurd (by have h:=hbb;exact (inj h |>.2.2.2.2.1)) h4)
      clear h4 inj HTx HEx
      clear HD HP HD' HP' Hih Hnp Hnp' Hb
      generalize txt a=sa at *
      generalize txt v=sv at *
      generalize txt f=sf at *
      generalize txt l=sl at *
      generalize txt l'=sl' at *
      go_enter Tryz.func16,Tryz.ntmps16
      go_upto_region 1 with fail
      rw[HW1.out,HW2.out]
      (try rw[HSz.out])
      go_wp2
      go_ret
      exact⟨by rw[hbf.out];rfl,HB.out⟩
    ·have e1:=str_ne h3
     have hbf:Hid (b=false):=hide (by
      cases hbb:b with
      | false=>rfl
      | true=>exact absurd (by have h:=hbb;exact (inj h |>.2.2.2.1)) h3)
     clear h3 inj HTx HEx
     clear HD HP HD' HP' Hih Hnp Hnp' Hb
     generalize txt a=sa at *
     generalize txt v=sv at *
     generalize txt f=sf at *
     generalize txt l=sl at *
     generalize txt f'=sf' at *
     generalize txt l'=sl' at *
     go_enter Tryz.func16,Tryz.ntmps16
     go_upto_region 1 with fail
     rw[HW1.out,HW2.out]
     (try rw[HSz.out])
     go_wp2
     go_ret
     exact⟨by rw[hbf.out];rfl,HB.out⟩
   ·have e1:=str_ne h2
    have hbf:Hid (b=false):=hide (by
     cases hbb:b with
     | false=>rfl
     | true=>exact absurd (by have h:=hbb;exact (inj h |>.2.2.1)) h2)
    clear h2 inj HTx HEx
    clear HD HP HD' HP' Hih Hnp Hnp' Hb
    generalize txt a=sa at *
    generalize txt v=sv at *
    generalize txt f=sf at *
    generalize txt l=sl at *
    generalize txt v'=sv' at *
    generalize txt f'=sf' at *
    generalize txt l'=sl' at *
    go_enter Tryz.func16,Tryz.ntmps16
    go_upto_region 1 with fail
    rw[HW1.out,HW2.out]
    (try rw[HSz.out])
    go_wp2
    go_ret
    exact⟨by rw[hbf.out];rfl,HB.out⟩
  ·have e1:=str_ne h1
   have hbf:Hid (b=false):=hide (by
    cases hbb:b with
    | false=>rfl
    | true=>exact absurd (by have h:=hbb;exact (inj h |>.2.1)) h1)
   clear h1 inj HTx HEx
   clear HD HP HD' HP' Hih Hnp Hnp' Hb
   generalize txt a=sa at *
   generalize txt v=sv at *
   generalize txt f=sf at *
   generalize txt l=sl at *
   generalize txt a'=sa' at *
   generalize txt v'=sv' at *
   generalize txt f'=sf' at *
   generalize txt l'=sl' at *
   go_enter Tryz.func16,Tryz.ntmps16
   go_upto_region 1 with fail
   rw[HW1.out,HW2.out]
   (try rw[HSz.out])
   go_wp2
   go_ret
   exact⟨by rw[hbf.out];rfl,HB.out⟩
 ·have e1:(k==k')=false:=beq_false_of_ne h0
  have hbf:Hid (b=false):=hide (by
   cases hbb:b with
   | false=>rfl
   | true=>exact absurd (by have h:=hbb;exact (inj h |>.1)) h0)
  clear h0 inj HTx HEx
  clear HD HP HD' HP' Hih Hnp Hnp' Hb
  generalize txt a=sa at *
  generalize txt v=sv at *
  generalize txt f=sf at *
  generalize txt l=sl at *
  generalize txt a'=sa' at *
  generalize txt v'=sv' at *
  generalize txt f'=sf' at *
  generalize txt l'=sl' at *
  go_enter Tryz.func16,Tryz.ntmps16
  go_upto_region 1 with fail
  rw[HW1.out,HW2.out]
  (try rw[HSz.out])
  go_wp2
  go_ret
  exact⟨by rw[hbf.out];rfl,HB.out⟩
end Go.Proofs.YtaolhefllfnmiaaGreatDoor
namespace Go.Proofs.YtaolhefllfnmiaaGreatDoor
open Go.RowKit
set_option linter.unusedVariables false
namespace FT
theorem any_text:∀(any:List (List UInt8)),(∀x∈any,x.length≤200)→(any.flatMap (fun x=>esc x++[42])).length≤601*any.length
 | [],_=>by simp
 | x::r,h=>by
  have:=any_text r (fun y hy=>h y (List.mem_cons_of_mem _ hy))
  have h1:=esc_len x
  have h2:=h x (by simp)
  simp only[List.flatMap_cons,List.length_append,List.length_cons,List.length_nil] at this ⊢
  omega
theorem sign_len (k:Int):1≤(sign k).length∧(sign k).length≤2:=by
 unfold sign
 split
 ·simp
 split
 ·simp
 split<;>simp
theorem node_text {k:Int} {a v f l:List UInt8} {any:List (List UInt8)} {ps:List FT} (h:bare (.mk k a v f l any ps)=true) (hn:any.length≤100):(text (.mk k a v f l any ps)).length≤65000+(textL ps).length:=by
 have hi:=bare_is h
 have h1:=esc_len v
 have h2:=esc_len f
 have h3:=esc_len l
 have h4:=any_text any hi.lx
 have h5:=hi.la
 have h6:=hi.lv
 have h7:=hi.lf
 have h8:=hi.ll
 have hs:=(sign_len k).2
 rw[text]
 split
 ·simp only[List.length_cons,List.length_append,List.length_nil];omega
 split
 ·simp only[List.length_cons,List.length_append,List.length_nil];omega
 split
 ·simp only[List.length_cons,List.length_append,List.length_nil];omega
 ·simp only[List.length_cons,List.length_append,List.length_nil];omega
mutual
theorem small_text:∀(t:FT) (d n:Int),0≤t.small d n→t.all=true→((text t).length:Int)≤70000*(n-t.small d n)
 | .mk k a v f l any ps,d,n,h,ha=>by
  have hb:bare (.mk k a v f l any ps)=true∧allL ps=true:=by rw[all] at ha;simpa using ha
  simp only[FT.small] at h ⊢
  split at h
  ·omega
  ·rename_i h1
   split at h
   ·omega
   ·rename_i h2
    rw[if_neg h1,if_neg h2]
    have h3:=smallL_text ps (d+1) (n-1) h hb.2
    have h4:=node_text hb.1 (by omega)
    omega
theorem smallL_text:∀(ps:List FT) (d n:Int),0≤smallL ps d n→allL ps=true→((textL ps).length:Int)≤70000*(n-smallL ps d n)
 | [],d,n,h,_=>by simp[FT.smallL,textL]
 | p::r,d,n,h,ha=>by
  have hb:all p=true∧allL r=true:=by rw[allL] at ha;simpa using ha
  simp only[FT.smallL] at h ⊢
  split at h
  ·omega
  ·rename_i h1
   rw[if_neg h1]
   have h2:=smallL_text r d (p.small d n) h hb.2
   have h3:=small_text p d n (by
    rcases Int.lt_or_le (p.small d n) 0 with h4 | h4
    ·exfalso
     cases r with
     | nil=>simp only[FT.smallL] at h;omega
     | cons q r=>simp only[FT.smallL] at h;rw[if_pos h4] at h;omega
    ·exact h4) hb.1
   simp only[textL,List.length_append]
   omega
end
theorem text_small {t:FT} (h:t.smallB=true):t.formed=true→t.text.length≤10000000:=fun hf=>by
 have h0:0≤t.small 0 60:=by unfold smallB at h;simpa using h
 have ha:t.all=true:=by
  unfold formed at hf
  simp only[Bool.and_eq_true] at hf
  exact hf.2
 have:=small_text t 0 60 h0 ha
 omega
theorem esc1_len (c:UInt8):(esc1 c).length≤3:=by unfold esc1;split<;>simp
theorem val_len:∀(x v:List UInt8),valF x=some v→(esc v).length≤x.length
 | [],v,h=>by rw[valF] at h;cases h;simp[esc]
 | c::r,v,h=>by
  rw[valF.eq_def] at h
  simp only at h
  split at h
  ·split at h
   ·rename_i d f q
    split at h
    ·rename_i n hn
     cases hq:valF q with
     | none=>rw[hq] at h;cases h
     | some u=>
      rw[hq] at h
      simp only[Option.map_some,Option.some.injEq] at h
      subst h
      have:=val_len q u hq
      have h1:=esc1_len (UInt8.ofNat n)
      simp only[esc,List.flatMap_cons,List.length_append,List.length_cons] at this ⊢
      omega
    ·cases h
   ·cases h
  ·split at h
   ·cases h
   ·rename_i hm
    cases hq:valF r with
    | none=>rw[hq] at h;cases h
    | some u=>
     rw[hq] at h
     simp only[Option.map_some,Option.some.injEq] at h
     subst h
     have:=val_len r u hq
     have h1:esc1 c=[c]:=by unfold esc1;rw[if_neg hm]
     simp only[esc,List.flatMap_cons,h1,List.length_append,List.length_cons,List.length_nil] at this ⊢
     omega
theorem head_len (h:List UInt8):(headF h).2.length+(sign (headF h).1).length=h.length+1∧((headF h).1=3→(headF h).2.length=h.length)∧((headF h).1=3∨(headF h).1=5∨(headF h).1=6∨(headF h).1=8):=by
 have ne:∀{c},h.getLast?=some c→h.length≠0:=fun hc h0=>by rw[List.length_eq_zero_iff.1 h0] at hc;simp at hc
 unfold headF
 split
 ·rename_i h1
  have:=ne h1
  simp[sign,List.length_dropLast]
  omega
 split
 ·rename_i h1
  have:=ne h1
  simp[sign,List.length_dropLast]
  omega
 split
 ·rename_i h1
  have:=ne h1
  simp[sign,List.length_dropLast]
  omega
 ·simp [sign]
theorem spl_total:∀x:List UInt8,((splF x).map List.length).sum+(splF x).length=x.length+1
 | []=>by simp[splF]
 | c::r=>by
  have ih:=spl_total r
  rw[splF]
  by_cases h:c=42
  ·rw [if_pos h]
   simp only[List.map_cons,List.sum_cons,List.length_cons,List.length_nil]
   omega
  ·rw [if_neg h]
   cases hs:splF r with
   | nil=>exact absurd hs (splF_ne r)
   | cons y t=>
    rw[hs] at ih
    simp only[List.map_cons,List.sum_cons,List.length_cons] at ih ⊢
    omega
theorem vals_len:∀(xs vs:List (List UInt8)),valsF xs=some vs→vs.length=xs.length∧(vs.map fun v=>(esc v).length).sum≤(xs.map List.length).sum
 | [],vs,h=>by rw[valsF] at h;cases h;simp
 | x::r,vs,h=>by
  rw[valsF] at h
  cases hx:valF x with
  | none=>rw[hx] at h;cases h
  | some v=>
   rw[hx] at h
   simp only at h
   cases hr:valsF r with
   | none=>rw[hr] at h;cases h
   | some u=>
    rw[hr] at h
    simp only[Option.map_some,Option.some.injEq] at h
    subst h
    have h1:=vals_len r u hr
    have h2:=val_len x v hx
    simp only[List.map_cons,List.sum_cons,List.length_cons]
    omega
theorem flat_sum:∀any:List (List UInt8),(any.flatMap (fun x=>esc x++[42])).length=(any.map fun v=>(esc v).length).sum+any.length
 | []=>rfl
 | x::r=>by
  have:=flat_sum r
  simp only[List.flatMap_cons,List.length_append,List.length_cons,List.length_nil,List.map_cons,List.sum_cons] at this ⊢
  omega
theorem mid_list {vs:List (List UInt8)} (h:2≤vs.length):∃f any l,vs=f::(any++[l]):=by
 match vs,h with
 | f::g::r,_=>
  refine⟨f,(g::r).dropLast,(g::r).getLast (by simp),?_⟩
  rw[List.dropLast_concat_getLast]
theorem simple_len {t:List UInt8} {f:FT} (h:simpleF t=some f):(text f).length≤t.length+2∧(t.length≤90000→f.wee):=by
 unfold simpleF at h
 cases hc:cutF 61 t with
 | none=>rw[hc] at h;cases h
 | some p=>
  obtain⟨hd,x⟩:=p
  rw[hc] at h
  simp only at h
  have hl:=cutF_len hc
  obtain⟨h1,h2,h3⟩:=head_len hd
  split at h
  ·cases hv:valF x with
   | none=>rw[hv] at h;cases h
   | some v=>
    rw[hv] at h
    simp only[Option.map_some,Option.some.injEq] at h
    subst h
    have h4:=val_len x v hv
    rw[text_val _ _ _ _ _ _ _ h3]
    simp only[List.length_cons,List.length_append,List.length_nil]
    refine⟨by omega,fun _=>?_⟩
    simp[wee,weeL]
  ·rename_i hne
   have hk:(headF hd).1=3:=by
    rcases Decidable.em ((headF hd).1=3) with q | q
    ·exact q
    ·exact absurd (.inl q) hne
   have h5:=h2 hk
   split at h
   ·rename_i hx
    subst hx
    cases h
    rw[text_has]
    simp only[List.length_cons,List.length_append,List.length_nil] at hl ⊢
    refine⟨by omega,fun _=>?_⟩
    simp[wee,weeL]
   ·have h42:42∈x:=by
     rcases Decidable.em (42∈x) with q | q
     ·exact q
     ·exact absurd (.inr q) hne
    cases hv:valsF (splF x) with
    | none=>rw[hv] at h;cases h
    | some vs=>
     rw[hv] at h
     simp only[Option.map_some,Option.some.injEq] at h
     subst h
     obtain⟨h6,h7⟩:=vals_len _ _ hv
     have h8:=spl_total x
     have h9:=splF_len x
     have h10:=List.count_pos_iff.2 h42
     obtain⟨f,any,l,rfl⟩:=mid_list (vs:=vs) (by omega)
     have hg:(f::(any++[l])).getLastD []=l:=by
      rw[show f::(any++[l])=(f::any)++[l] from rfl,List.getLastD_concat]
     unfold mkP
     rw[hg]
     simp only[List.headD_cons,List.tail_cons,List.dropLast_concat]
     have h11:=flat_sum any
     rw[text_sub]
     simp only[List.length_cons,List.length_append,List.length_nil,List.map_cons,List.map_append,List.map_nil,List.sum_cons,List.sum_append,List.sum_nil] at *
     refine⟨by omega,fun _=>?_⟩
     simp only[wee,weeL]
     simp
     omega
theorem textL_snoc (acc:List FT) (p:FT):textL (acc++[p])=textL acc++text p:=by
 rw[textL_flat,textL_flat];simp
theorem weeL_snoc:∀{acc:List FT} {p:FT},weeL acc→p.wee→weeL (acc++[p])
 | [],p,_,h=>by simp only[List.nil_append,weeL];exact⟨h,trivial⟩
 | q::r,p,h,hp=>by
  simp only[weeL,List.cons_append] at h ⊢
  exact⟨h.1,weeL_snoc h.2 hp⟩
theorem kindF_012 {c:UInt8} {k:Int} (h:kindF c=some k):k=0∨k=1∨k=2:=by
 unfold kindF at h
 split at h
 ·cases h;exact .inl rfl
 split at h
 ·cases h;exact .inr (.inl rfl)
 split at h
 ·cases h;exact .inr (.inr rfl)
 ·cases h
mutual
theorem read_len:∀(n:Nat) (s:List UInt8) (t:FT) (r:List UInt8),readF n s=some (t,r)→(text t).length+r.length≤s.length∧(s.length≤90000→t.wee)
 | 0,s,t,r,h=>by simp[readF] at h
 | n+1,[],t,r,h=>by simp[readF] at h
 | n+1,[_],t,r,h=>by simp[readF] at h
 | n+1,b::c::q,t,r,h=>by
  rw[readF.eq_def] at h
  simp only at h
  split at h
  ·cases hk:kindF c with
   | some k=>
    rw[hk] at h
    have:=parts_len n k q [] t r (kindF_012 hk) h
    simp only[List.length_cons,textL,List.length_nil] at this ⊢
    exact⟨by omega,fun hs=>this.2 (by omega) (by simp[weeL])⟩
   | none=>
    rw[hk] at h
    simp only at h
    cases hc:cutF 41 (c::q) with
    | none=>rw[hc] at h;cases h
    | some p=>
     obtain⟨x,y⟩:=p
     rw[hc] at h
     simp only at h
     have:=cutF_len hc
     cases hs:simpleF x with
     | none=>rw[hs] at h;cases h
     | some f=>
      rw[hs] at h
      simp only[Option.map_some,Option.some.injEq,Prod.mk.injEq] at h
      obtain⟨rfl,rfl⟩:=h
      have h1:=simple_len hs
      simp only[List.length_cons] at this ⊢
      exact⟨by omega,fun hs=>h1.2 (by omega)⟩
  ·cases h
theorem parts_len:∀(n:Nat) (k:Int) (s:List UInt8) (acc:List FT) (t:FT) (r:List UInt8),k=0∨k=1∨k=2→partsF n k s acc=some (t,r)→(text t).length+r.length≤s.length+2+(textL acc).length∧(acc.length+s.length≤90000→weeL acc→t.wee)
 | 0,k,s,acc,t,r,_,h=>by simp[partsF] at h
 | n+1,k,[],acc,t,r,_,h=>by simp[partsF] at h
 | n+1,k,b::q,acc,t,r,hk,h=>by
  rw[partsF.eq_def] at h
  simp only at h
  split at h
  ·cases hr:readF n (b::q) with
   | none=>rw[hr] at h;cases h
   | some p=>
    obtain⟨p,rest⟩:=p
    rw[hr] at h
    simp only at h
    have h1:=read_len n _ _ _ hr
    have h2:=parts_len n k rest _ t r hk h
    have h3:=readF_len n _ _ _ hr
    rw[textL_snoc] at h2
    simp only[List.length_append,List.length_cons,List.length_nil] at h1 h2 h3 ⊢
    exact⟨by omega,fun hs hw=>h2.2 (by omega) (weeL_snoc hw (h1.2 (by omega)))⟩
  ·split at h
   ·simp only[Option.some.injEq,Prod.mk.injEq] at h
    obtain⟨rfl,rfl⟩:=h
    rw[text_parts _ _ _ _ _ _ _ hk,←textL_flat]
    simp only[List.length_cons,List.length_append,List.length_nil]
    refine⟨by omega,fun hs hw=>?_⟩
    simp only[wee,List.length_nil]
    exact⟨by omega,by omega,hw⟩
   ·cases h
end
theorem parse_len {s:List UInt8} {t:FT} (h:parseF s=some t):(text t).length≤16384∧t.wee:=by
 unfold parseF at h
 split at h
 ·cases h
 ·rename_i hl
  split at h
  ·rename_i t' hr
   split at h
   ·cases h
    have:=read_len _ _ _ _ hr
    exact⟨by simp only[List.length_nil] at this;omega,this.2 (by omega)⟩
   ·cases h
  ·cases h
end FT
end Go.Proofs.YtaolhefllfnmiaaGreatDoor
