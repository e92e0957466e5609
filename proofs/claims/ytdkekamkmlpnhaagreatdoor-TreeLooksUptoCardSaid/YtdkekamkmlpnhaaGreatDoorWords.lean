/- Words for memory that the proofs of this seat share: a slice that reads as a list of cells, an append onto a slice of the call's own from any source, bytes as cells, and the text that bytes are turned into. No statement is proved here. -/
import Derived.WalkKit
import Derived.Deep.Draws
import Derived.Deep.AppendLies
import Derived.Maps.AppendAt
import Derived.RegionTactic
import Derived.WalkSpells
import Derived.WalkLawsBesides
set_option linter.unusedSimpArgs false
set_option linter.unusedVariables false
namespace Go.Proofs.YtdkekamkmlpnhaaGreatDoor
open Go.RowKit
theorem hide {p:Prop} (h:p):Hid p:=h
theorem Below.drewN {B:Nat} {a w:World} (h:Below B a w) (n:Nat):Below B a (w.drewN n):=⟨h.os,h.tape,h.output,h.size,h.block⟩
theorem zA6 (a:Addr) (n:Nat):(a.add n).block=a.block:=by unfold Addr.add;split<;>rfl
theorem zLx (a:Addr) (i j:Nat):(a.add i).add j=a.add (i+j):=by
 unfold Addr.add;by_cases hi:i=0<;>by_cases hj:j=0<;>simp[hi,hj,Nat.add_assoc]
def Has (w:World) (B size:Nat) (A:Option Addr) (n:Nat) (xs:List Value):Prop:=
 xs.length=n*size/\(xs=[]\/∃ad,A=some ad/\ad.block<B/\∀j u,xs[j]?=some u->w.cell? (ad.add j)=some u)
section
variable {w w':World} {B B' size n:Nat} {A:Option Addr} {xs:List Value}
theorem Has.nil:Has w B size A 0 []:=⟨by simp,.inl rfl⟩
theorem Has.keep (h:Has w B size A n xs) (hk:∀p:Addr,p.block<B->w'.cell? p=w.cell? p):Has w' B size A n xs:=by
 refine⟨h.1,h.2.imp id ?_⟩;rintro ⟨ad,e,hb,hc⟩;exact⟨ad,e,hb,fun j u hu=>(hk _ (by rw[zA6];exact hb)).trans (hc j u hu)⟩
theorem Has.upto (h:Has w B size A n xs) (hB:B<=B'):Has w B' size A n xs:=by
 refine⟨h.1,h.2.imp id ?_⟩;rintro ⟨ad,e,hb,hc⟩;exact⟨ad,e,Nat.lt_of_lt_of_le hb hB,hc⟩
theorem Has.below (h:Has w B size A n xs) (hb:Below B w w'):Has w' B size A n xs:=h.keep fun _ hp=>hb.cell hp
theorem Has.own {base:Nat} {e:TypeId} {c:Nat} (h:w.ownsRow base e size (.slice A n c) n xs):Has w w.heap.size size A n xs:=by
 refine⟨h.1,?_⟩;rcases Nat.eq_zero_or_pos n with h0 | h0
 ·subst h0;exact .inl (List.eq_nil_of_length_eq_zero (by simpa using h.1))
 ·obtain ⟨g,cap,hv,_,hlt⟩:=h.form h0;injection hv with hA
  subst hA;exact .inr ⟨_,rfl,hlt,h.cells (g:=g) rfl⟩
theorem zAc {base:Nat} {e:TypeId} {v:Value} (h:w.ownsRow base e size v n xs) (hb:Below w.heap.size w w'):w'.ownsRow base e size v n xs:=
 h.kept (row:=none) ⟨hb.os,hb.tape,hb.output,hb.size,fun k hk _=>hb.block k hk⟩ (by cases hv:v.ownBlock<;>simp)
theorem zAh {base:Nat} {e:TypeId} {v:Value} (h:w.ownsRow base e size v n xs):∃A c,v=.slice A n c/\n<=c/\Has w w.heap.size size A n xs:=by
 rcases h.2 with⟨rfl,rfl⟩ | ⟨g,cap,cur,rfl,_,_,hnc,_⟩
 ·exact ⟨none,0,rfl,Nat.le_refl _,Has.own h⟩
 ·exact ⟨_,cap,rfl,hnc,Has.own h⟩
theorem zEf {base base':Nat} {e:TypeId} {v:Value} (h:w.ownsRow base e size v n xs) (hb:base'<=base):w.ownsRow base' e size v n xs:=by
 refine⟨h.1,h.2.imp id ?_⟩;rintro ⟨g,cap,cur,hv,hg,rest⟩;exact⟨g,cap,cur,hv,Nat.le_trans hb hg,rest⟩
theorem zDu (w:World) (cs:Array Value) (e:TypeId) (n:Nat) (hm:n<=maxLen) (hs:cs.size=n):
  (w.alloc (.cells cs e)).ownsRow w.heap.size e 1 (.slice (some ⟨w.heap.size,0,none⟩) n n) n cs.toList:=
 World.ownsRow_lit w cs n (Nat.le_refl _) hm (by simpa using hs)
theorem Has.from_ (h:Has w B size A n xs) {k cap:Nat} (hk:k<=n) (hc:n<=cap):
  Has w B size (if cap=k then A else A.map (·.add (k*size))) (n-k) (xs.drop (k*size)):=by
 refine⟨by rw[List.length_drop,h.1,Nat.sub_mul],?_⟩;rcases Nat.lt_or_ge k n with hn | hn
 ·rcases h.2 with rfl | ⟨ad,rfl,hb,hcell⟩
  ·simp
  ·rw [if_neg (by omega)];refine .inr ⟨ad.add (k*size),rfl,by rw[zA6];exact hb,fun j u hu=>?_⟩;rw[zLx];exact hcell _ u (by rw[<-hu,List.getElem?_drop])
 ·obtain rfl:k=n:=by omega
  exact .inl (List.drop_eq_nil_of_le (by rw[h.1];exact Nat.le_refl _))
theorem Has.first (h:Has w B size A n xs) {k:Nat} (hk:k<=n):Has w B size A k (xs.take (k*size)):=by
 have hle:k*size<=n*size:=Nat.mul_le_mul_right _ hk;refine⟨by rw[List.length_take,h.1];omega,?_⟩;rcases h.2 with rfl | ⟨ad,e,hb,hc⟩
 ·simp
 ·refine .inr ⟨ad,e,hb,fun j u hu=>hc j u ?_⟩;rw[List.getElem?_take] at hu;split at hu
  ·exact hu
  ·cases hu
theorem Has.lies (h:Has w B size A n xs) (hn:0<xs.length):∃g o,A=some ⟨g,o,none⟩/\g<B/\∀j u,xs[j]?=some u->w.cell? ⟨g,o+j,none⟩=some u:=by
 rcases h.2 with rfl | ⟨ad,rfl,hb,hc⟩
 ·simp at hn
 ·obtain ⟨g,o,sp⟩:=ad;have h0:=hc 0 _ (List.getElem?_eq_getElem hn);have hsp:sp=none:=by simpa[Addr.add] using World.cell?_spot h0
  subst hsp;refine⟨g,o,rfl,hb,fun j u hu=>?_⟩;have:=hc j u hu
  rwa [show (⟨g,o,none⟩:Addr).add j=⟨g,o+j,none⟩ by unfold Addr.add;split<;>simp_all] at this
end
section
variable {P:Program} (w:World)
theorem run_app (base:Nat) (t ty e:TypeId) (i:TypeInfo) (z:Value) (size bytes:Nat) (ht:P.underlying t=some (.slice e)) (hi:P.info? e=some i) (hz:i.zero=some z)
  (hsize:i.size=size) (hby:i.bytes=bytes) (hzs:z.cells.size=size) (hsz:0<size)
  (v:Value) (n:Nat) (xs:List Value) (hown:w.ownsRow base e size v n xs)
  (B:Nat) (A:Option Addr) (m c:Nat) (news:List Value) (hr:Has w B size A m news) (h1:∀u∈news,u.oneCell'=true)
  (h63:n+m<=maxLen) (hbytes:(n+m)*bytes<=140737488355328) (hbase:base<=w.heap.size):
  ∃v' w',(Builtin.append_ #[t,t] ty #[v,.slice A m c]).run P w=.ok v' w'/\w'.ownsRow base e size v' (n+m) (xs++news)/\w.grownBy w' v.ownBlock/\
   (v'.ownBlock=v.ownBlock\/v'.ownBlock=some w.heap.size):=by
 cases A with
 | some ad=>
  have hcells:∀j u,news[j]?=some u->w.cell? (ad.add j)=some u:=by
   rcases hr.2 with rfl | ⟨ad',e',_,hc⟩
   ·simp
   ·injection e' with e'
    subst e';exact hc
  obtain⟨v',w',q1,q2,q3,_,q5⟩:=run_append_own_at (P:=P) w base t ty e i z size bytes ht hi hz hsize hby hzs hsz v n xs hown ad m c news hr.1 hcells h1 h63 hbytes hbase;exact⟨v',w',q1,q2,q3,q5⟩
 | none=>
  have hnil:news=[]:=by
   rcases hr.2 with h | ⟨ad,h,_⟩
   ·exact h
   ·cases h
  subst hnil;have hm:m=0:=by
   rcases Nat.eq_zero_or_pos m with h0 | h0
   ·exact h0
   ·have h2:=hr.1;have h3:=Nat.mul_pos h0 hsz;simp only[List.length_nil] at h2;omega
  subst hm;refine⟨v,w,?_,by simpa using hown,World.grownBy.refl w _,.inl rfl⟩;rcases hown.2 with⟨rfl,rfl⟩ | ⟨g,cap,cur,rfl,_,_,hnc,_⟩
  ·simp [Builtin.append_,run_underlying ht,sizeOf,typeInfo,hi,Builtin.lenOf,Builtin.firstCells]
  ·simp [Builtin.append_,run_underlying ht,sizeOf,typeInfo,hi,Builtin.lenOf,Builtin.firstCells,hnc,storeCells]
theorem wp_app {o:Oper} {a:Act} {K:Act->World->Prop} {Q:Exit->Act->World->Prop} (s x:Operand) (t:TypeId)
  (ho:o.op=.call { callee:=.builtin .append,args:=#[s,x],argTypes:=#[t,t] })
  (base:Nat) (e:TypeId) (i:TypeInfo) (z:Value) (size bytes:Nat) (ht:P.underlying t=some (.slice e)) (hi:P.info? e=some i) (hz:i.zero=some z)
  (hsize:i.size=size) (hby:i.bytes=bytes) (hzs:z.cells.size=size) (hsz:0<size)
  (v:Value) (n:Nat) (xs:List Value) (hs:a.eval s=v) (hown:w.ownsRow base e size v n xs)
  (B:Nat) (A:Option Addr) (m c:Nat) (news:List Value) (hx:a.eval x=.slice A m c) (hr:Has w B size A m news) (h1:∀u∈news,u.oneCell'=true)
  (h63:n+m<=maxLen) (hbytes:(n+m)*bytes<=140737488355328) (hbase:base<=w.heap.size)
  (h:∀v' w',w'.ownsRow base e size v' (n+m) (xs++news)->w.grownBy w' v.ownBlock->(v'.ownBlock=v.ownBlock\/v'.ownBlock=some w.heap.size)->K (a.put o.dst v') w'):o.wp P a w K Q:=by
 obtain⟨v',w',hrun,q2,q3,q4⟩:=run_app (P:=P) w base t o.type e i z size bytes ht hi hz hsize hby hzs hsz v n xs hown B A m c news hr h1 h63 hbytes hbase;unfold Oper.wp execOp;simp only[ho,resolve,invoke,builtin,Sem.run_bind,Sem.run_pure,Result.andThen_ok,List.map_toArray,List.map_cons,List.map_nil,hs,hx,hrun];exact h v' w' q2 q3 q4
theorem zCc {ops:Array Oper} {rest:List Oper} {o:Oper} {a:Act} {Q:Exit->Act->World->Prop} (hgd:o.guard=none) (s x:Operand) (t:TypeId)
  (ho:o.op=.call { callee:=.builtin .append,args:=#[s,x],argTypes:=#[t,t] })
  (base:Nat) (e:TypeId) (i:TypeInfo) (z:Value) (size bytes:Nat) (ht:P.underlying t=some (.slice e)) (hi:P.info? e=some i) (hz:i.zero=some z)
  (hsize:i.size=size) (hby:i.bytes=bytes) (hzs:z.cells.size=size) (hsz:0<size)
  (v:Value) (n:Nat) (xs:List Value) (hs:a.eval s=v) (hown:w.ownsRow base e size v n xs)
  (B:Nat) (A:Option Addr) (m c:Nat) (news:List Value) (hx:a.eval x=.slice A m c) (hr:Has w B size A m news) (h1:∀u∈news,u.oneCell'=true)
  (h63:n+m<=maxLen) (hbytes:(n+m)*bytes<=140737488355328) (hbase:base<=w.heap.size)
  (h:∀v' w',w'.ownsRow base e size v' (n+m) (xs++news)->w.grownBy w' v.ownBlock->(v'.ownBlock=v.ownBlock\/v'.ownBlock=some w.heap.size)->wpList P ops Q rest (a.put o.dst v') w'):wpList P ops Q (o::rest) a w:=
 wpList_plain hgd fun _ hK=>wp_app w s x t ho base e i z size bytes ht hi hz hsize hby hzs hsz v n xs hs hown B A m c news hx hr h1 h63 hbytes hbase fun v' w' q2 q3 q4=>hK _ _ (h v' w' q2 q3 q4)
theorem zM8 {ops:Array Oper} {o:Oper} {a:Act} {K:Act->World->Prop} {Q:Exit->Act->World->Prop} {E:Prop} (hgd:o.guard=none) (s x:Operand) (t:TypeId)
  (ho:o.op=.call { callee:=.builtin .append,args:=#[s,x],argTypes:=#[t,t] })
  (base:Nat) (e:TypeId) (i:TypeInfo) (z:Value) (size bytes:Nat) (ht:P.underlying t=some (.slice e)) (hi:P.info? e=some i) (hz:i.zero=some z)
  (hsize:i.size=size) (hby:i.bytes=bytes) (hzs:z.cells.size=size) (hsz:0<size)
  (v:Value) (n:Nat) (xs:List Value) (hs:a.eval s=v) (hown:w.ownsRow base e size v n xs)
  (B:Nat) (A:Option Addr) (m c:Nat) (news:List Value) (hx:a.eval x=.slice A m c) (hr:Has w B size A m news) (h1:∀u∈news,u.oneCell'=true)
  (h63:n+m<=maxLen) (hbytes:(n+m)*bytes<=140737488355328) (hbase:base<=w.heap.size)
  (h:∀v' w',w'.ownsRow base e size v' (n+m) (xs++news)->w.grownBy w' v.ownBlock->(v'.ownBlock=v.ownBlock\/v'.ownBlock=some w.heap.size)->K (a.put o.dst v') w'):
  if Region.wanted o (yielded ops a.tmps)=true then Oper.wp P o a w K Q else E:=by
 have hw:Region.wanted o (yielded ops a.tmps)=true:=by simp[Region.wanted,hgd]
 rw[if_pos hw];exact wp_app w s x t ho base e i z size bytes ht hi hz hsize hby hzs hsz v n xs hs hown B A m c news hx hr h1 h63 hbytes hbase h
end
def c8 (b:UInt8):Value:=.int .u8 (b.toNat:Int)
def bys (l:List UInt8):List Value:=l.map c8
theorem zEq (l:List UInt8):(bys l).length=l.length:=by simp[bys]
theorem zC9 (l m:List UInt8):bys (l++m)=bys l++bys m:=by simp[bys]
theorem zKv (l:List UInt8):∀u∈bys l,u.oneCell'=true:=by
 intro u hu;obtain⟨b,_,rfl⟩:=List.mem_map.1 hu;rfl
theorem c8_ofNat (x:Nat):c8 (UInt8.ofNat x)=.int .u8 ((x:Int) % 256):=by
 unfold c8;rw[UInt8.toNat_ofNat'];simp
theorem c8_lit (x:Nat) (h:x<256):c8 (UInt8.ofNat x)=.int .u8 (x:Int):=by
 rw[c8_ofNat,Int.emod_eq_of_lt (by omega) (by omega)]
def txt (l:List UInt8):ByteArray:=⟨l.toArray⟩
@[simp] theorem zAb (l:List UInt8):(txt l).toList=l:=ByteArray.toList_mk l
theorem zAf (l:List UInt8):(txt l).data.toList=l:=by simp[txt]
theorem zSj {P:Program} (W:World) {B:Nat} {A:Option Addr} {n c:Nat} {l:List UInt8} (h:Has W B 1 A n (bys l)) (src dst e:TypeId)
  (hs:P.underlying src=some (.slice e)) (he:P.underlying e=some (.int .u8)) (hd:P.underlying dst=some .string):
  (convert src dst (.slice A n c)).run P W=.ok (.string (txt l)) W:=by
 rw[run_convert_bytes_string W src dst e A n c hs he hd];have hn:l.length=n:=by simpa[bys] using h.1
 rcases h.2 with h0 | ⟨ad,rfl,_,hc⟩
 ·have hl:l=[]:=by simpa[bys] using h0
  subst hl;simp only[List.length_nil] at hn;subst hn;cases A with
  | none=>simp[Conv.bytesToString,txt];rfl
  | some ad=>
   rw[run_bytesToString W ad 0 c [] (by simp[loadCells,loadCellsFrom])];rfl
 ·have hm:(l.map fun b=>(b.toNat:Int)).map (Value.int .u8)=bys l:=by simp[bys,c8,Function.comp_def]
  have hload:(loadCells ad n).run P W=.ok ((l.map fun b=>(b.toNat:Int)).map (Value.int .u8)).toArray W:=by have:=run_loadCells_list (P:=P) W ad (bys l) hc;rw[hm];simpa[bys,hn] using this
  rw[run_bytesToString W ad n c _ hload,foldl_push_bytes];simp[txt,ByteArray.empty,ByteArray.emptyWithCapacity,Function.comp_def];rfl
end Go.Proofs.YtdkekamkmlpnhaaGreatDoor
