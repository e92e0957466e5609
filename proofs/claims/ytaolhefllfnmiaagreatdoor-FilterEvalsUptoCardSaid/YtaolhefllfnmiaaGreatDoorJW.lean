/- Several texts in one: JLaws, JReadPM, JReadP, JReadS, JReadL, JRead, JParse, JAwake. By an AI agent. -/
import Derived.Test.YtaolhefllfnmiaaGreatDoorHU
import Derived.Test.YtaolhefllfnmiaaGreatDoorJZ
import Derived.Deep.MidRow
import Derived.Deep.DeepMust
import Derived.Lib.SplitLaws
import Derived.Lib.IndexAny
import Derived.Test.YtaolhefllfnmiaaGreatDoorJX
import Derived.Test.YtaolhefllfnmiaaGreatDoorJY
set_option maxRecDepth 100000
set_option maxHeartbeats 64000000
namespace Go.Proofs.YtaolhefllfnmiaaGreatDoor
open Go.RowKit
set_option linter.unusedVariables false
theorem store7 {ops:Array Oper} {rest:List Oper} {o:Oper} {a:Act} {Q:Exit→Act→World→Prop} (w:World) (hgd:o.guard=none) (x y:Operand) (ho:o.op=.store 33 x y)
  (h:Nat) (u0 u1 u2 u3 u4 u5 u6 v0 v1 v2 v3 v4 v5 v6:Value) (hx:a.eval x=.pointer (some ⟨h,0,none⟩)) (hy:a.eval y=.agg #[v0,v1,v2,v3,v4,v5,v6]) (hO:Out7 w h u0 u1 u2 u3 u4 u5 u6) (h1:∀u∈[v0,v1,v2,v3,v4,v5,v6],u.oneCell'=true)
  (H:∀wz,Out7 wz h v0 v1 v2 v3 v4 v5 v6→w.grownBy wz (some h)→wpList Tryz.prog ops Q rest (a.put o.dst undef) wz):wpList Tryz.prog ops Q (o::rest) a w:=by
 refine wpList_store_mid hgd 33 x y ho h 0 #[v0,v1,v2,v3,v4,v5,v6] hx hy hO.there (by kernel_rfl) (all_oneCell_toArray h1) ?_
 exact H _ hO.sets (grown_setCells h _ 0 w)
theorem appF {ops:Array Oper} {rest:List Oper} {o:Oper} {a:Act} {Q:Exit→Act→World→Prop} (W:World) (hgd:o.guard=none) (s x:Operand)
  (ho:o.op=.call { callee:=.builtin .append,args:=#[s,x],argTypes:=#[31,31] })
  (base:Nat) (v:Value) (n:Nat) (xs:List Value) (hs:a.eval s=v) (hown:W.ownsRow base 33 7 v n xs)
  (B:Nat) (A:Option Addr) (m c:Nat) (l:List Value) (hx:a.eval x=.slice A m c) (hr:Has W B 7 A m l) (h1:∀u∈l,u.oneCell'=true)
  (hb:n+m≤1000000) (hbase:base≤W.heap.size)
  (h:∀v' w',w'.ownsRow base 33 7 v' (n+m) (xs++l)→W.grownBy w' v.ownBlock→(v'.ownBlock=v.ownBlock∨v'.ownBlock=some W.heap.size)→wpList Tryz.prog ops Q rest (a.put o.dst v') w'):
  wpList Tryz.prog ops Q (o::rest) a W:=by
 obtain⟨i0,hi,hz0,hz1,hz2⟩:=info_parts infoF
 exact wpList_app W hgd s x 31 ho base 33 i0 _ 7 120 Tryz.underlying31 hi hz0 hz1 hz2 rfl (by omega) v n xs hs hown B A m c l hx hr h1 (by unfold maxLen;omega) (by omega) hbase h
theorem appS {ops:Array Oper} {rest:List Oper} {o:Oper} {a:Act} {Q:Exit→Act→World→Prop} (W:World) (hgd:o.guard=none) (s x:Operand)
  (ho:o.op=.call { callee:=.builtin .append,args:=#[s,x],argTypes:=#[22,22] })
  (base:Nat) (v:Value) (n:Nat) (xs:List Value) (hs:a.eval s=v) (hown:W.ownsRow base 9 1 v n xs)
  (B:Nat) (A:Option Addr) (m c:Nat) (l:List Value) (hx:a.eval x=.slice A m c) (hr:Has W B 1 A m l) (h1:∀u∈l,u.oneCell'=true)
  (hb:n+m≤1000000) (hbase:base≤W.heap.size)
  (h:∀v' w',w'.ownsRow base 9 1 v' (n+m) (xs++l)→W.grownBy w' v.ownBlock→(v'.ownBlock=v.ownBlock∨v'.ownBlock=some W.heap.size)→wpList Tryz.prog ops Q rest (a.put o.dst v') w'):
  wpList Tryz.prog ops Q (o::rest) a W:=by
 obtain⟨i0,hi,hz0,hz1,hz2⟩:=info_parts infoS
 exact wpList_app W hgd s x 22 ho base 9 i0 _ 1 16 Tryz.underlying22 hi hz0 hz1 hz2 rfl (by omega) v n xs hs hown B A m c l hx hr h1 (by unfold maxLen;omega) (by omega) hbase h
theorem results_cell2 {fn:Func} {p u:Tmp} {ty:TypeId} (h:fn.results=#[.cell p ty,.tmp u]) (tmps:Array Value) {P:Program} (w:World) (b:Nat) (cs:List Value) (d:TypeDesc) (x:Value)
  (hp:tmps.getD p undef=.pointer (some ⟨b,0,none⟩)) (hx:tmps.getD u undef=x) (hc:w.rangeAt b 0 cs) (hu:P.underlying ty=some d) (hd:d.isRow=true) (hi:(P.info? ty).map (·.size)=some cs.length):
  (results fn tmps).run P w=.ok (.tuple #[.agg cs.toArray,x]) w:=by
 rw[results_cell_tmp h,hp,hx]
 simp[asAddr,run_loadVar_mid w b 0 ty cs d hc hu hd hi,Result.andThen]
theorem results_cell3 {fn:Func} {p u v:Tmp} {ty:TypeId} (h:fn.results=#[.cell p ty,.tmp u,.tmp v]) (tmps:Array Value) {P:Program} (w:World) (b:Nat) (cs:List Value) (d:TypeDesc) (x y:Value)
  (hp:tmps.getD p undef=.pointer (some ⟨b,0,none⟩)) (hx:tmps.getD u undef=x) (hy:tmps.getD v undef=y) (hc:w.rangeAt b 0 cs) (hu:P.underlying ty=some d) (hd:d.isRow=true) (hi:(P.info? ty).map (·.size)=some cs.length):
  (results fn tmps).run P w=.ok (.tuple #[.agg cs.toArray,x,y]) w:=by
 have hp':tmps[p]?.getD undef=.pointer (some ⟨b,0,none⟩):=by simpa using hp
 have hx':tmps[u]?.getD undef=x:=by simpa using hx
 have hy':tmps[v]?.getD undef=y:=by simpa using hy
 simp[results,h,hp',hx',hy',asAddr,run_loadVar_mid w b 0 ty cs d hc hu hd hi]
structure Fil (r:Option FT) (w w':World) (b:Bool) (v0 v1 v2 v3 v4 v5 v6:Value):Prop where
 fil:∃t,FInP w' (fun g=>w.heap.size≤g∧g<w'.heap.size) t [v0,v1,v2,v3,v4,v5,v6]∧r=if b then some t else none
 bel:Below w.heap.size w w'
structure SimPost (r:Option FT) (w:World) (e:Ending) (w':World):Prop where
 out:∃v0 v1 v2 v3 v4 v5 v6 b,e=.returned (.tuple #[.agg #[v0,v1,v2,v3,v4,v5,v6],.bool b])∧Fil r w w' b v0 v1 v2 v3 v4 v5 v6
theorem finp_flat (w:World) (P:Nat→Prop) (k:Int) (a v f l:List UInt8) (c d:Nat):FInP w P (.mk k a v f l [] []) [.int .i64 k,.string (txt a),.string (txt v),.string (txt f),.string (txt l),.slice none 0 c,.slice none 0 d]:=by
 simp only[FInP]
 exact⟨none,c,none,d,[],rfl,⟨Nat.zero_le _,Nat.zero_le _⟩,⟨rfl,.inl rfl⟩,⟨rfl,.inl rfl⟩,rfl⟩
theorem finp_zero (w:World) (P:Nat→Prop):FInP w P (.mk 0 [] [] [] [] [] []) [.int .i64 0,.string ⟨#[]⟩,.string ⟨#[]⟩,.string ⟨#[]⟩,.string ⟨#[]⟩,.slice none 0 0,.slice none 0 0]:=finp_flat w P 0 [] [] [] [] 0 0
end Go.Proofs.YtaolhefllfnmiaaGreatDoor
namespace Go.Proofs.YtaolhefllfnmiaaGreatDoor
open Go.RowKit
set_option linter.unusedVariables false
theorem FT.splF_mem:∀(x y:List UInt8),y∈FT.splF x→y.length≤x.length
 | [],y,h=>by simp[FT.splF] at h;subst h;simp
 | c::r,y,h=>by
  have ih:=FT.splF_mem r
  rw[FT.splF] at h
  split at h
  ·rcases List.mem_cons.1 h with rfl | h
   ·simp
   ·have:=ih y h;simp only[List.length_cons];omega
  ·cases hs:FT.splF r with
   | nil=>rw[hs] at h;simp at h;subst h;simp
   | cons z t=>
    rw[hs] at h ih
    rcases List.mem_cons.1 h with rfl | h
    ·have:=ih z (by simp);simp only[List.length_cons];omega
    ·have:=ih y (by simp[h]);simp only[List.length_cons];omega
theorem splitK_splF:∀x:List UInt8,Lib.splitK [42] 0 (x.count 42) x=FT.splF x
 | []=>rfl
 | c::r=>by
  have ih:=splitK_splF r
  by_cases h:c=42
  ·subst h
   have e:(42::r).count (42:UInt8)=r.count 42+1:=by simp
   have hix:Lib.index ((42:UInt8)::r) [42]=0:=by rw[Lib.index];simp[List.isPrefixOf]
   rw[e,Lib.splitK,hix,if_neg (by decide),FT.splF,if_pos rfl,←ih]
   simp
  ·rw [List.count_cons_of_ne h,FT.splF,if_neg h]
   cases hk:r.count 42 with
   | zero=>
    have hn:(42:UInt8) ∉ r:=List.count_eq_zero.1 hk
    rw[Lib.splitK,FT.splF_plain hn]
   | succ k=>
    rw[hk,Lib.splitK] at ih
    have hp:([42]:List UInt8).isPrefixOf (c::r)=false:=by simp[List.isPrefixOf,Ne.symm h]
    have hix:Lib.index (c::r) [42]=if Lib.index r [42]== -1 then -1 else Lib.index r [42]+1:=by rw[Lib.index,hp];simp
    have hge:=Lib.index_ge r [42]
    by_cases hm:Lib.index r [42]= -1
    ·exfalso
     have h1:(r.count 42)≠0:=by omega
     have h2:(42:UInt8)∈r:=List.count_pos_iff.1 (by omega)
     have h3:=Lib.contains_iff_indexByte r 42
     rw[Lib.index_one] at hm
     rw[hm] at h3
     simp at h3
     exact h3 h2
    ·rw [if_neg (by simpa using hm)] at ih hix
     rw[Lib.splitK,hix,if_neg (by rw[beq_iff_eq];omega),←ih]
     have e1:(Lib.index r [42]+1).toNat=(Lib.index r [42]).toNat+1:=by omega
     simp only[e1]
     simp[Nat.add_assoc]
theorem txt_data (b:ByteArray):txt b.data.toList=b:=(data_cell b _ rfl).symm
theorem spl_cells (x:List UInt8):Lib.countB (txt x) (txt [42])=x.count 42∧(Lib.splitB (txt [42]) 0 (Lib.countB (txt x) (txt [42])) (txt x)).map Value.string=strs (FT.splF x):=by
 have h1:Lib.countB (txt x) (txt [42])=x.count 42:=by
  unfold Lib.countB
  rw[txt_toList,txt_toList,Lib.count_one]
 refine⟨h1,?_⟩
 have h2:=Lib.splitB_data (txt [42]) 0 (Lib.countB (txt x) (txt [42])) (txt x)
 rw[h1] at h2 ⊢
 rw[txt_toList,txt_toList,splitK_splF] at h2
 rw[←h2]
 unfold strs
 rw[List.map_map]
 refine List.map_congr_left fun b _=>?_
 simp[txt_data]
theorem valsF_snoc {x v:List UInt8}:∀{l vs:List (List UInt8)},FT.valsF l=some vs→FT.valF x=some v→FT.valsF (l++[x])=some (vs++[v])
 | [],vs,h,hv=>by
  simp only[FT.valsF,Option.some.injEq] at h
  subst h
  simp[FT.valsF,hv]
 | y::r,vs,h,hv=>by
  rw[FT.valsF] at h
  cases hy:FT.valF y with
  | none=>rw[hy] at h;cases h
  | some u=>
   rw[hy] at h
   cases hr:FT.valsF r with
   | none=>rw[hr] at h;cases h
   | some us=>
    rw[hr] at h
    simp only[Option.map_some,Option.some.injEq] at h
    subst h
    have:=valsF_snoc hr hv
    rw[List.cons_append,FT.valsF,hy]
    simp only[this,Option.map_some,List.cons_append]
theorem valsF_len:∀{l vs:List (List UInt8)},FT.valsF l=some vs→vs.length=l.length
 | [],vs,h=>by simp only[FT.valsF,Option.some.injEq] at h;subst h;rfl
 | y::r,vs,h=>by
  rw[FT.valsF] at h
  cases hy:FT.valF y with
  | none=>rw[hy] at h;cases h
  | some u=>
   rw[hy] at h
   cases hr:FT.valsF r with
   | none=>rw[hr] at h;cases h
   | some us=>
    rw[hr] at h
    simp only[Option.map_some,Option.some.injEq] at h
    subst h
    simp[valsF_len hr]
theorem valsF_none:∀{l:List (List UInt8)} {x:List UInt8},x∈l→FT.valF x=none→FT.valsF l=none
 | y::r,x,h,hv=>by
  rw[FT.valsF]
  rcases List.mem_cons.1 h with rfl | h
  ·rw [hv]
  ·rw [valsF_none h hv]
   cases FT.valF y<;>rfl
theorem grown_trans {w w' w'':World} {row:Option Nat} (h1:w.grownBy w' row) (h2:w'.grownBy w'' row):w.grownBy w'' row:=
 ⟨h2.os.trans h1.os,h2.tape.trans h1.tape,h2.output.trans h1.output,Nat.le_trans h1.size h2.size,fun k hk hne=>(h2.block k (Nat.lt_of_lt_of_le hk h1.size) hne).trans (h1.block k hk hne)⟩
theorem grown_of_below {w w':World} {row:Option Nat} {B:Nat} (hb:Below B w w') (hB:w.heap.size≤B):w.grownBy w' row:=
 ⟨hb.os,hb.tape,hb.output,hb.size,fun k hk _=>hb.block k (Nat.lt_of_lt_of_le hk hB)⟩
theorem grown_on {w w' w'':World} {row:Option Nat} (h1:w.grownBy w' row) (hb:Below w'.heap.size w' w''):w.grownBy w'' row:=grown_trans h1 (grown_of_below hb (Nat.le_refl _))
theorem Out7.seti {w:World} {h:Nat} {u0 u1 u2 u3 u4 u5 u6:Value} (t:Out7 w h u0 u1 u2 u3 u4 u5 u6) (u:Value):Out7 (w.setCell ⟨h,3,none⟩ u) h u0 u1 u2 u u4 u5 u6∧Out7 (w.setCell ⟨h,4,none⟩ u) h u0 u1 u2 u3 u u5 u6∧Out7 (w.setCell ⟨h,5,none⟩ u) h u0 u1 u2 u3 u4 u u6:=by
 have k:∀n i,i≠n→(w.setCell ⟨h,n,none⟩ u).cell? ⟨h,i,none⟩=w.cell? ⟨h,i,none⟩:=fun n i hi=>World.cell?_setCell_other _ _ _ _ (by simp;try omega)
 have f:∀n i,(w.setCell ⟨h,n,none⟩ u).frozen? ⟨h,i,none⟩=false:=fun n i=>by rw[World.frozen?_setCell];exact t.fz i
 have l:∀n,h<(w.setCell ⟨h,n,none⟩ u).heap.size:=fun n=>by simpa[World.setCell] using t.lt
 refine⟨⟨l 3,(k 3 0 (by omega)).trans t.c0,(k 3 1 (by omega)).trans t.c1,(k 3 2 (by omega)).trans t.c2,World.cell?_setCell_same _ _ _ t.c3,(k 3 4 (by omega)).trans t.c4,(k 3 5 (by omega)).trans t.c5,(k 3 6 (by omega)).trans t.c6,f 3⟩,
  ⟨l 4,(k 4 0 (by omega)).trans t.c0,(k 4 1 (by omega)).trans t.c1,(k 4 2 (by omega)).trans t.c2,(k 4 3 (by omega)).trans t.c3,World.cell?_setCell_same _ _ _ t.c4,(k 4 5 (by omega)).trans t.c5,(k 4 6 (by omega)).trans t.c6,f 4⟩,
  ⟨l 5,(k 5 0 (by omega)).trans t.c0,(k 5 1 (by omega)).trans t.c1,(k 5 2 (by omega)).trans t.c2,(k 5 3 (by omega)).trans t.c3,(k 5 4 (by omega)).trans t.c4,World.cell?_setCell_same _ _ _ t.c5,(k 5 6 (by omega)).trans t.c6,f 5⟩⟩
structure PcL (w3 wx:World) (b6:Nat) (sa F L:ByteArray) (v5:Value) (m:Nat) (acc:List (List UInt8)):Prop where
 grown:w3.grownBy wx (some b6)
 out:Out7 wx b6 (.int .i64 4) (.string sa) (.string ⟨#[]⟩) (.string F) (.string L) v5 (.slice none 0 0)
 own:wx.ownsRow w3.heap.size 9 1 v5 m (strs acc)
section
variable {w3 wr w4 w9:World} {b6 m:Nat} {sa F L:ByteArray} {v5 v9:Value} {acc:List (List UInt8)} {v:List UInt8} {C:Obj}
theorem PcL.off (h:PcL w3 wr b6 sa F L v5 m acc) (hb6:b6<w3.heap.size):v5.ownBlock≠some b6:=fun e=>by have:=h.own.lt b6 e;omega
theorem PcL.below (h:PcL w3 wr b6 sa F L v5 m acc) (hb:Below wr.heap.size wr w4):PcL w3 w4 b6 sa F L v5 m acc:=
 ⟨grown_on h.grown hb,h.out.below h.out.lt hb,own_below h.own hb⟩
theorem PcL.first (h:PcL w3 wr b6 sa F L v5 m acc) (hb6:b6<w3.heap.size) (u:ByteArray):PcL w3 (wr.setCell ⟨b6,3,none⟩ (.string u)) b6 sa u L v5 m acc:=
 ⟨grown_trans h.grown (grown_setCell wr b6 3 _),(h.out.seti (.string u)).1,h.own.kept (grown_setCell wr b6 3 _) (.inr (h.off hb6))⟩
theorem PcL.last (h:PcL w3 wr b6 sa F L v5 m acc) (hb6:b6<w3.heap.size) (u:ByteArray):PcL w3 (wr.setCell ⟨b6,4,none⟩ (.string u)) b6 sa F u v5 m acc:=
 ⟨grown_trans h.grown (grown_setCell wr b6 4 _),(h.out.seti (.string u)).2.1,h.own.kept (grown_setCell wr b6 4 _) (.inr (h.off hb6))⟩
theorem PcL.app (h:PcL w3 wr b6 sa F L v5 m acc) (hb6:b6<w3.heap.size) (hown:w9.ownsRow w3.heap.size 9 1 v9 (m+1) (strs acc++[.string (txt v)])) (hg:(wr.alloc C).grownBy w9 v5.ownBlock) (ht:v9.ownBlock=v5.ownBlock∨v9.ownBlock=some (wr.alloc C).heap.size):
  PcL w3 (w9.setCell ⟨b6,5,none⟩ v9) b6 sa F L v9 (m+1) (acc++[v]):=by
 have hs8:(wr.alloc C).heap.size=wr.heap.size+1:=by simp
 have hs1:=h.grown.size
 have hs9:=hg.size
 have ho:=h.own.lt
 have hgs:=grown_setCell w9 b6 5 v9
 have hss:=hgs.size
 have q1:∀b,b<wr.heap.size→some b≠v5.ownBlock→w9.heap[b]?=wr.heap[b]?:=fun b hb hne=>(hg.block b (by omega) hne).trans (heap_alloc_old wr C hb)
 have qs:∀b,b<w9.heap.size→b≠b6→(w9.setCell ⟨b6,5,none⟩ v9).heap[b]?=w9.heap[b]?:=fun b hb hne=>hgs.block b hb (fun e=>hne (Option.some.inj e))
 have hno:∀b,b<w3.heap.size→some b≠v5.ownBlock:=fun b hb e=>by have:=ho b e.symm;omega
 have hn9:v9.ownBlock≠some b6:=fun e=>by
  rcases ht with e2 | e2
  ·rw [e2] at e;have:=ho b6 e;omega
  ·rw [e2] at e;have:=Option.some.inj e;omega
 refine⟨⟨hgs.os.trans (hg.os.trans h.grown.os),hgs.tape.trans (hg.tape.trans h.grown.tape),hgs.output.trans (hg.output.trans h.grown.output),by omega,fun b hb hne=>?_⟩,?_,?_⟩
 ·have hbh:b≠b6:=fun e=>hne (by rw[e])
  exact (qs b (by omega) hbh).trans ((q1 b (by omega) (hno b hb)).trans (h.grown.block b hb hne))
 ·exact ((h.out.keep (by omega) (q1 b6 (by omega) (hno b6 hb6))).seti v9).2.2
 ·have:=hown.kept hgs (.inr hn9)
  simpa[strs] using this
theorem PcL.done {w wz:World} {h0:Nat} {a f l:List UInt8} {A:Option Addr} {c:Nat} (h:PcL w3 wr b6 (txt a) (txt f) (txt l) (.slice A m c) m acc) (hm:acc.length=m) (hm5:m≤100000) (h0w:w.heap.size≤h0) (h03:h0<w3.heap.size) (hb6:w.heap.size≤b6) (hw3:Below w.heap.size w w3)
  (hO:Out7 wz h0 (.int .i64 4) (.string (txt a)) (.string ⟨#[]⟩) (.string (txt f)) (.string (txt l)) (.slice A m c) (.slice none 0 0)) (hg:wr.grownBy wz (some h0)):
  Fil (some (.mk 4 a [] f l acc [])) w wz true (.int .i64 4) (.string (txt a)) (.string ⟨#[]⟩) (.string (txt f)) (.string (txt l)) (.slice A m c) (.slice none 0 0):=by
 have hs1:=h.grown.size
 have hsz:=hg.size
 have hs3:=hw3.size
 subst hm
 obtain⟨A',c',e1,_,hP1⟩:=own_formP h.own
 cases e1
 refine⟨⟨.mk 4 a [] f l acc [],?_,rfl⟩,hw3.trans ((below_of_grown h.grown (fun k hk=>by cases hk;exact hb6) hs3).trans (below_of_grown hg (fun k hk=>by cases hk;exact h0w) (by omega)))⟩
 simp only[FInP]
 refine⟨A,c,none,0,[],rfl,⟨by unfold maxLen;omega,Nat.zero_le _⟩,?_,⟨rfl,.inl rfl⟩,rfl⟩
 refine hP1.move (fun x hx=>World.cell?_of_block (hg.block _ hx.2 (fun e=>by have:=Option.some.inj e;omega))) (fun b hx=>⟨by omega,by omega⟩)
end
end Go.Proofs.YtaolhefllfnmiaaGreatDoor
namespace Go.Proofs.YtaolhefllfnmiaaGreatDoor
open Go.RowKit
set_option linter.unusedVariables false
theorem jpieces_any (a x:List UInt8) (hx:x.length≤20000) (h42:42∈x) (w:World) (hT:TM w):
  Calls Tryz.prog 68 #[.string (txt a),.string (txt x)] w (SimPost ((FT.valsF (FT.splF x)).map (FT.mkP a)) w):=by
 obtain⟨mx,hmx⟩:=hT.mx.max
 obtain⟨h1c,h2c⟩:=spl_cells x
 have hN:=FT.splF_len x
 have hN2:2≤(FT.splF x).length:=by rw[hN];have:=List.count_pos_iff.2 h42;omega
 have hNle:(FT.splF x).length≤20001:=by rw[hN];have:=List.count_le_length (a:=(42:UInt8)) (l:=x);omega
 have hR0:=Out7.new (u0:=.int .i64 0) (u1:=.string ⟨#[]⟩) (u2:=.string ⟨#[]⟩) (u3:=.string ⟨#[]⟩) (u4:=.string ⟨#[]⟩) (u5:=.slice none 0 0) (u6:=.slice none 0 0) w 33
 have hb0:=below1 w (.cells #[.int .i64 0,.string ⟨#[]⟩,.string ⟨#[]⟩,.string ⟨#[]⟩,.string ⟨#[]⟩,.slice none 0 0,.slice none 0 0] 33)
 obtain⟨w1,hw1⟩:∃w1,w.alloc (.cells #[.int .i64 0,.string ⟨#[]⟩,.string ⟨#[]⟩,.string ⟨#[]⟩,.string ⟨#[]⟩,.slice none 0 0,.slice none 0 0] 33)=w1:=⟨_,rfl⟩
 have hsz1:w1.heap.size=w.heap.size+1:=by rw[←hw1];simp
 rw[hw1] at hR0 hb0
 obtain⟨sa,hsa⟩:∃sa,txt a=sa:=⟨_,rfl⟩
 have hR6:=Out7.new (u0:=.int .i64 4) (u1:=.string sa) (u2:=.string ⟨#[]⟩) (u3:=.string ⟨#[]⟩) (u4:=.string ⟨#[]⟩) (u5:=.slice none 0 0) (u6:=.slice none 0 0) w1 33
 have hb1:=below1 w1 (.cells #[.int .i64 4,.string sa,.string ⟨#[]⟩,.string ⟨#[]⟩,.string ⟨#[]⟩,.slice none 0 0,.slice none 0 0] 33)
 obtain⟨w2,hw2⟩:∃w2,w1.alloc (.cells #[.int .i64 4,.string sa,.string ⟨#[]⟩,.string ⟨#[]⟩,.string ⟨#[]⟩,.slice none 0 0,.slice none 0 0] 33)=w2:=⟨_,rfl⟩
 have hsz2:w2.heap.size=w.heap.size+2:=by rw[←hw2];simp[hsz1]
 rw[hw2] at hR6 hb1
 rw[hsz1] at hR6
 have hb2:=hb0.trans (hb1.mono hb0.size)
 have hSp:=Tryz.strings_Split (txt x) (txt [42]) mx w2 (by rw[txt_size];omega) ((hb2.cell (p:=⟨2,0,none⟩) (cell_lt hmx)).trans hmx) (by rw[txt_size];simp)
 have hlit:=own_lit w2 (strs (FT.splF x)).toArray 9 (FT.splF x).length (by unfold maxLen;omega) (by simp[strs])
 have hcells:((Lib.splitB (txt [42]) 0 (Lib.countB (txt x) (txt [42])) (txt x)).map Value.string).toArray=(strs (FT.splF x)).toArray:=by rw[h2c]
 rw[hcells,h1c,←hN] at hSp
 obtain⟨N,hNv⟩:∃N,(FT.splF x).length=N:=⟨_,rfl⟩
 rw[hNv] at hSp hlit hN2 hNle
 have hb3:=below1 w2 (.cells (strs (FT.splF x)).toArray 9)
 obtain⟨w3,hw3⟩:∃w3,w2.alloc (.cells (strs (FT.splF x)).toArray 9)=w3:=⟨_,rfl⟩
 have hsz3:w3.heap.size=w.heap.size+3:=by rw[←hw3];simp[hsz2]
 rw[hw3] at hSp hlit hb3
 have hH3:=Has.own hlit
 rw[List.toList_toArray] at hH3
 have HB3:=hide (hb2.trans (hb3.mono hb2.size))
 have HR0:=hide (((hR0.below hR0.lt hb1).below (Nat.lt_of_lt_of_le hR0.lt hb1.size) hb3))
 have hP3:PcL w3 w3 (w.heap.size+1) sa ⟨#[]⟩ ⟨#[]⟩ (.slice none 0 0) 0 []:=⟨⟨rfl,rfl,rfl,Nat.le_refl _,fun _ _ _=>rfl⟩,hR6.below hR6.lt hb3,nil_own _ _ _ _⟩
 have HH:=hide hH3
 have HT:=hide hT
 have HSp:=hide hSp
 have HP:=hide hP3
 have HW1:=hide hw1
 have HW2:=hide hw2
 have HSz:=hide (And.intro hsz1 (And.intro hsz2 hsz3))
 have Hsa:=hide hsa
 have HNv:=hide hNv
 have Hxl:Hid (∀y∈FT.splF x,y.length≤20000):=hide (fun y hy=>Nat.le_trans (FT.splF_mem x y hy) hx)
 obtain⟨R,hR⟩:∃R,(FT.valsF (FT.splF x)).map (FT.mkP a)=R:=⟨_,rfl⟩
 rw[hsa,hR]
 have HR:=hide hR
 obtain⟨sx,hsx⟩:∃sx,txt x=sx:=⟨_,rfl⟩
 rw[hsx] at HSp ⊢
 obtain⟨b6,hb6⟩:∃b6,w.heap.size+1=b6:=⟨_,rfl⟩
 rw[hb6] at HP
 have Hb6:=hide hb6
 clear hsx hR hNv hsa hw1 hw2 hw3 hsz1 hsz2 hsz3 hP3 hSp hH3 hlit hb0 hb1 hb2 hb3 hR0 hR6 h1c h2c hN hcells hmx hT h42 hx hb6
 go_enter Tryz.func68,Tryz.ntmps68
 go_upto_region 2 with fail
 rw[HW1.out,HW2.out]
 (try rw[HSz.out.1])
 (try rw[Hb6.out])
 go_wp2_with (go_at_call 93;fail)
 refine HSp.out.mono ?_
 rintro e w9 ⟨rfl,hw9⟩
 obtain rfl:=hw9.symm
 clear hw9 HSp HW1 HW2
 go_wp2
 go_loopg [18] N (fun r s18 wx=>∃(j m:Nat) (vs acc:List (List UInt8)) (F L:ByteArray) (v5:Value),j+r=N∧s18=.int .i64 (j:Int)∧Hid (FT.valsF ((FT.splF x).take j)=some vs∧F=txt (vs.headD [])∧L=txt (if j=N then vs.getLastD [] else [])∧acc=(if j=N then vs.tail.dropLast else vs.tail)∧acc.length=m)∧Hid (PcL w3 wx b6 sa F L v5 m acc))
 case atStart=>exact⟨0,0,[],[],⟨#[]⟩,⟨#[]⟩,.slice none 0 0,by omega,rfl,hide ⟨by simp[FT.valsF],rfl,by rw[if_neg (by omega)];rfl,by simp,rfl⟩,HP⟩
 case round=>
  obtain⟨j,m,vs,acc,F,L,v5,hjg,rfl,hst,hpc⟩:=hrel
  clear HP
  cases gk with
  | zero=>
   obtain rfl:j=N:=by omega
   have hjz:¬((j:Int)<(j:Int)):=by omega
   obtain⟨h1,h2,h3,h4,h5⟩:=hst.out
   rw[List.take_of_length_le (by rw[HNv.out];exact Nat.le_refl _)] at h1
   rw[if_pos rfl] at h3 h4
   have hvl:=valsF_len h1
   rw[HNv.out] at hvl
   have hRe:Hid (R=some (.mk 4 a [] (vs.headD []) (vs.getLastD []) acc [])):=hide (by rw[←HR.out,h1,h4];rfl)
   have hm5:m≤100000:=by rw[←h5,h4];simp;omega
   obtain⟨A5,c5,hv5,_,_⟩:=own_form hpc.out.own
   have hpc2:=hpc.out
   rw[hv5,h2,h3,←Hsa.out] at hpc2
   have H5:=hide h5
   have hPc:=hide hpc2
   have hO:=hpc2.out
   have hRz:=HR0.out.keep hpc2.grown.size (hpc2.grown.block _ (by have:=HSz.out;omega) (fun e=>by have:=Option.some.inj e;have:=Hb6.out;omega))
   have HRz:=hide hRz
   obtain⟨sF,hsF⟩:∃sF,txt (vs.headD [])=sF:=⟨_,rfl⟩
   obtain⟨sL,hsL⟩:∃sL,txt (vs.getLastD [])=sL:=⟨_,rfl⟩
   have HsF:=hide hsF
   have HsL:=hide hsL
   have Hsa2:=Hsa
   rw[hsF,hsL,Hsa.out] at hO
   obtain⟨_,o0,o1,o2,o3,o4,o5,o6,_⟩:=hO
   clear hst h1 h2 h3 h4 h5 hvl HR hpc hpc2 hRz hsF hsL
   go_wp2_with (refine store7 _ rfl (.tmp 4) (.tmp 50) rfl w.heap.size _ _ _ _ _ _ _ (.int .i64 4) (.string sa) (.string ⟨#[]⟩) (.string sF) (.string sL) (.slice A5 m c5) (.slice none 0 0) rfl rfl HRz.out (by simp[Value.oneCell']) ?_)
   intro wz hOz hgz
   have HOz:=hide hOz
   have Hgz:=hide hgz
   clear hOz hgz o0 o1 o2 o3 o4 o5 o6
   go_wp2
   refine bodyPost_ret (v:=.tuple #[.agg #[.int .i64 4,.string sa,.string ⟨#[]⟩,.string sF,.string sL,.slice A5 m c5,.slice none 0 0],.bool true]) ?_ rfl ?_
   ·exact results_cell2 rfl _ wz w.heap.size [.int .i64 4,.string sa,.string ⟨#[]⟩,.string sF,.string sL,.slice A5 m c5,.slice none 0 0] _ _ rfl rfl HOz.out.range Tryz.underlying33 rfl (by kernel_rfl)
   ·have hOz:=HOz.out
    rw[←Hsa2.out,←HsF.out,←HsL.out] at hOz
    have hfil:=PcL.done hPc.out H5.out hm5 (Nat.le_refl _) (by have:=HSz.out;omega) (by have:=Hb6.out;omega) HB3.out hOz Hgz.out
    rw[←hRe.out,Hsa2.out,HsF.out,HsL.out] at hfil
    exact⟨⟨_,_,_,_,_,_,_,_,rfl,hfil⟩⟩
  | succ r=>
   have hj:j<N:=by omega
   have hjz:(j:Int)<(N:Int):=by omega
   have hne:j≠N:=by omega
   obtain⟨h1,h2,h3,h4,h5⟩:=hst.out
   rw[if_neg hne] at h3 h4
   obtain⟨y,hy⟩:∃y,(FT.splF x)[j]?=some y:=⟨_,List.getElem?_eq_getElem (by rw[HNv.out];exact hj)⟩
   obtain⟨gg,o,hAe,hg,hc⟩:=HH.out.texts (fun h=>by rw[h] at hy;simp at hy)
   obtain⟨rfl,rfl⟩:gg=w2.heap.size∧o=0:=by
    have:=Option.some.inj hAe
    injection this with e1 e2
    exact⟨e1.symm,e2.symm⟩
   have x0:=(World.cell?_of_block (a:=⟨w2.heap.size,0+j,none⟩) (hpc.out.grown.block w2.heap.size (by have:=HSz.out;omega) (fun e=>by have:=Option.some.inj e;have:=HSz.out;have:=Hb6.out;omega))).trans (hc j y hy)
   rw[Nat.zero_add] at x0
   have hTr:TM wr:=HT.out.below (HB3.out.trans (below_of_grown hpc.out.grown (fun k hk=>by cases hk;have:=Hb6.out;omega) HB3.out.size))
   have hyl:=Hxl.out y (List.mem_of_getElem? hy)
   have hV:=fun w hT=>jvalue_any (txt y) (by rw[txt_size];omega) w hT
   simp only[txt_toList] at hV
   have hvl:=valsF_len h1
   rw[List.length_take,HNv.out] at hvl
   have htk:(FT.splF x).take (j+1)=(FT.splF x).take j++[y]:=by rw[List.take_add_one,hy];rfl
   have hb6lt:b6<w3.heap.size:=by have:=HSz.out;have:=Hb6.out;omega
   cases hv:FT.valF y with
   | none=>
    rw[hv] at hV
    have hRe:Hid (R=none):=hide (by rw[←HR.out,valsF_none (List.mem_of_getElem? hy) hv];rfl)
    have HV:=hide hV
    have HPc:=hide hpc.out
    have hRz:=HR0.out.keep hpc.out.grown.size (hpc.out.grown.block _ (by have:=HSz.out;omega) (fun e=>by have:=Option.some.inj e;have:=Hb6.out;omega))
    have HRz:=hide hRz
    clear hst h1 h2 h3 h4 h5 hvl HR hpc hRz hy hc hAe hg htk hv hV hne HH hyl Hxl
    generalize txt y=sy at *
    go_wp2_with (go_at_call 67;fail)
    refine (HV.out _ hTr.tt.tabs).mono ?_
    rintro e w4 ⟨rfl,hb4⟩
    have HPc4:=hide (HPc.out.below hb4)
    have HRz4:=hide (HRz.out.below HRz.out.lt hb4)
    clear hb4 HPc HRz x0 hTr HV
    go_wp2_with (refine store7 _ rfl (.tmp 4) (.tmp 30) rfl w.heap.size _ _ _ _ _ _ _ (.int .i64 0) (.string ⟨#[]⟩) (.string ⟨#[]⟩) (.string ⟨#[]⟩) (.string ⟨#[]⟩) (.slice none 0 0) (.slice none 0 0) rfl rfl HRz4.out (by simp[Value.oneCell']) ?_)
    intro wz hOz hgz
    have HOz:=hide hOz
    have Hgz:=hide hgz
    clear hOz hgz
    go_wp2
    refine bodyPost_ret (v:=.tuple #[.agg #[.int .i64 0,.string ⟨#[]⟩,.string ⟨#[]⟩,.string ⟨#[]⟩,.string ⟨#[]⟩,.slice none 0 0,.slice none 0 0],.bool false]) ?_ rfl ?_
    ·exact results_cell2 rfl _ wz w.heap.size [.int .i64 0,.string ⟨#[]⟩,.string ⟨#[]⟩,.string ⟨#[]⟩,.string ⟨#[]⟩,.slice none 0 0,.slice none 0 0] _ _ rfl rfl HOz.out.range Tryz.underlying33 rfl (by kernel_rfl)
    ·have hbz:Below w.heap.size w wz:=HB3.out.trans ((below_of_grown HPc4.out.grown (fun k hk=>by cases hk;have:=Hb6.out;omega) HB3.out.size).trans (below_of_grown Hgz.out (fun k hk=>by cases hk;exact Nat.le_refl _) (Nat.le_trans HB3.out.size HPc4.out.grown.size)))
     exact⟨⟨_,_,_,_,_,_,_,_,rfl,⟨⟨_,finp_zero _ _,hRe.out⟩,hbz⟩⟩⟩
   | some v=>
    rw[hv] at hV
    have hv1:=valsF_snoc h1 hv
    rw[←htk] at hv1
    obtain⟨sv,hsv⟩:∃sv,txt v=sv:=⟨_,rfl⟩
    simp only[Option.getD_some,Option.isSome_some,hsv] at hV
    have HV:=hide hV
    have HPc:=hide hpc.out
    have Hsv:=hide hsv
    have HvF:=hide h2
    have hvl2:vs.length=j:=by omega
    clear hst hpc hc hAe hg htk hV HH hyl Hxl hy hv h1
    generalize txt y=sy at *
    by_cases j0:j=0
    ·subst j0
     obtain rfl:vs=[]:=List.eq_nil_of_length_eq_zero hvl2
     have hn1:¬(0+1=N):=by omega
     have hst2:Hid (FT.valsF ((FT.splF x).take (0+1))=some ([]++[v])∧sv=txt (([]++[v]).headD [])∧L=txt (if 0+1=N then ([]++[v]).getLastD [] else [])∧acc=(if 0+1=N then ([]++[v]).tail.dropLast else ([]++[v]).tail)∧acc.length=m):=hide ⟨hv1,hsv.symm,by rw[if_neg hn1];exact h3,by rw[if_neg hn1,h4];rfl,h5⟩
     clear hv1 hvl hvl2 h2 h3 h4 h5 hsv hn1 HvF
     go_wp2_with (go_at_call 67;fail)
     refine (HV.out _ hTr.tt.tabs).mono ?_
     rintro e w4 ⟨rfl,hb4⟩
     have HPc4:=hide (HPc.out.below hb4)
     have HPn:=hide (HPc4.out.first hb6lt sv)
     have HRd:=HPc4.out.out
     obtain⟨_,o0,o1,o2,o3,o4,o5,o6,ofz⟩:=HRd
     have of3:=ofz 3
     clear hb4 HPc HPc4 x0 hTr HV ofz
     go_wp2
     go_roundg r
     case measure=>omega
     case rel=>exact⟨0+1,m,[]++[v],acc,sv,L,v5,by omega,by first | rfl | go_num,hst2,HPn⟩
    have z0:((j:Int)==0)=false:=beq_false_of_ne (by omega)
    have hhd:(vs++[v]).headD []=vs.headD []:=by cases vs with | nil=>simp at hvl2;omega | cons p q=>rfl
    have hvne:vs≠[]:=fun e=>by rw[e] at hvl2;simp at hvl2;omega
    by_cases jN:j+1=N
    ·have z1:((j:Int)==(N:Int)-1)=true:=by rw[show (N:Int)-1=(j:Int) by omega];simp
     have hst2:Hid (FT.valsF ((FT.splF x).take (j+1))=some (vs++[v])∧F=txt ((vs++[v]).headD [])∧sv=txt (if j+1=N then (vs++[v]).getLastD [] else [])∧acc=(if j+1=N then (vs++[v]).tail.dropLast else (vs++[v]).tail)∧acc.length=m):=hide ⟨hv1,by rw[hhd];exact h2,by rw[if_pos jN,List.getLastD_concat];exact hsv.symm,by
      rw[if_pos jN,h4]
      cases vs with
      | nil=>exact absurd rfl hvne
      | cons p q=>simp,h5⟩
     clear hv1 hvl hvl2 h2 h3 h4 h5 hsv HvF hhd hvne j0
     go_wp2_with (go_at_call 67;fail)
     refine (HV.out _ hTr.tt.tabs).mono ?_
     rintro e w4 ⟨rfl,hb4⟩
     have HPc4:=hide (HPc.out.below hb4)
     have HPn:=hide (HPc4.out.last hb6lt sv)
     have HRd:=HPc4.out.out
     obtain⟨_,o0,o1,o2,o3,o4,o5,o6,ofz⟩:=HRd
     have of4:=ofz 4
     clear hb4 HPc HPc4 x0 hTr HV ofz
     go_wp2
     go_roundg r
     case measure=>omega
     case rel=>exact⟨j+1,m,vs++[v],acc,F,sv,v5,by omega,by go_num,hst2,HPn⟩
    ·have z1:((j:Int)==(N:Int)-1)=false:=beq_false_of_ne (by omega)
     have hst2:Hid (FT.valsF ((FT.splF x).take (j+1))=some (vs++[v])∧F=txt ((vs++[v]).headD [])∧L=txt (if j+1=N then (vs++[v]).getLastD [] else [])∧acc++[v]=(if j+1=N then (vs++[v]).tail.dropLast else (vs++[v]).tail)∧(acc++[v]).length=m+1):=hide ⟨hv1,by rw[hhd];exact h2,by rw[if_neg jN];exact h3,by
      rw[if_neg jN,h4]
      cases vs with
      | nil=>exact absurd rfl hvne
      | cons p q=>simp,by simp[h5]⟩
     have hm9:m+1≤1000000:=by rw[←h5,h4,List.length_tail];omega
     clear hv1 hvl hvl2 h2 h3 h4 h5 hsv HvF hhd hvne j0
     go_wp2_with (go_at_call 67;fail)
     refine (HV.out _ hTr.tt.tabs).mono ?_
     rintro e w4 ⟨rfl,hb4⟩
     have HPc4:=hide (HPc.out.below hb4)
     obtain⟨A5,c5,hv5,_,_⟩:=own_form HPc4.out.own
     subst hv5
     have HRd:=HPc4.out.out
     obtain⟨_,o0,o1,o2,o3,o4,o5,o6,ofz⟩:=HRd
     have hs43:=HPc4.out.grown.size
     have hone:=has_one w4 (.string sv) 9
     have hown8:=HPc4.out.own.alloc (.cells #[.string sv] 9)
     clear hb4 HPc x0 hTr HV
     go_wp2_with (at_builtin;go_must (refine appS _ rfl (.tmp 33) (.tmp 35) rfl w3.heap.size _ _ (strs acc) rfl hown8 _ _ 1 1 [.string sv] rfl hone (by simp[Value.oneCell']) hm9 (by simp;omega) ?_))
     intro v9 w9 hown9 hg9 ht9
     rw[←Hsv.out] at hown9
     have HPn:=hide (HPc4.out.app hb6lt hown9 hg9 (ht9.imp id fun e=>by rw[e];simp))
     have h9one:=own_one hown9
     obtain⟨A9,c9,hv9,_,_⟩:=own_form hown9
     subst hv9
     have hlt4:=HPc4.out.out.lt
     have hO9:=HPc4.out.out.keep (Nat.le_trans (by simp) hg9.size) ((hg9.block b6 (by simp;omega) (fun e=>HPc4.out.off hb6lt e.symm)).trans (heap_alloc_old w4 _ hlt4))
     clear o0 o1 o2 o3 o4 o5 o6 ofz hone hown8 hown9 hg9 ht9 h9one HPc4 hs43
     obtain⟨_,o0,o1,o2,o3,o4,o5,o6,ofz⟩:=hO9
     have of5:=ofz 5
     clear ofz
     go_wp2
     go_roundg r
     case measure=>omega
     case rel=>exact⟨j+1,m+1,vs++[v],acc++[v],F,L,.slice A9 (m+1) c9,by omega,by go_num,hst2,HPn⟩
end Go.Proofs.YtaolhefllfnmiaaGreatDoor
namespace Go.Proofs.YtaolhefllfnmiaaGreatDoor
open Go.RowKit
set_option linter.unusedVariables false
theorem index_noneC {c:UInt8}:∀{l:List UInt8},c ∉ l→Lib.index l [c]= -1
 | [],_=>by simp[Lib.index]
 | b::r,h=>by
  have h1:b≠c:=fun e=>h (by rw[e];exact List.mem_cons_self)
  have h2:=index_noneC (l:=r) fun hm=>h (List.mem_cons_of_mem _ hm)
  have h3:([c]:List UInt8).isPrefixOf (b::r)=false:=by
   simp only[List.isPrefixOf,Bool.and_true,beq_eq_false_iff_ne]
   exact fun e=>h1 e.symm
  rw[Lib.index,h3,h2];simp
theorem index_someC {c:UInt8}:∀{a:List UInt8} (b:List UInt8),c ∉ a→Lib.index (a++c::b) [c]=(a.length:Int)
 | [],b,_=>by rw[List.nil_append,Lib.index];simp[List.isPrefixOf]
 | x::r,b,h=>by
  have h1:x≠c:=fun e=>h (by rw[e];exact List.mem_cons_self)
  have h2:=index_someC (a:=r) b fun hm=>h (List.mem_cons_of_mem _ hm)
  have h3:([c]:List UInt8).isPrefixOf (x::(r++c::b))=false:=by
   simp only[List.isPrefixOf,Bool.and_true,beq_eq_false_iff_ne]
   exact fun e=>h1 e.symm
  rw[List.cons_append,Lib.index,h3,h2]
  simp only[Bool.false_eq_true,if_false,List.length_cons]
  have:((r.length:Int)== -1)=false:=beq_false_of_ne (by omega)
  rw[this];simp
theorem cut_isC {c:UInt8} {l:List UInt8}:(FT.cutF c l=none→Lib.cut l [c]=(l,[],false))∧(∀a b,FT.cutF c l=some (a,b)→Lib.cut l [c]=(a,b,true)∧a.length+1+b.length=l.length):=by
 rcases FT.cutF_cases c l with⟨h1,h2⟩ | ⟨a,b,h1,h2,h3⟩
 ·refine ⟨fun _=>?_,fun a b h=>by rw[h1] at h;cases h⟩
  unfold Lib.cut
  rw[index_noneC h2,if_neg (by omega)]
 ·refine ⟨fun h=>(by rw[h1] at h;cases h),fun a' b' h=>?_⟩
  rw[h1] at h
  cases h
  refine⟨?_,FT.cutF_len h1⟩
  rw[h2]
  unfold Lib.cut
  rw[index_someC b h3,if_pos (by omega)]
  simp
theorem contains_one (l:List UInt8):decide (0≤Lib.indexByte l 42)=decide (42∈l):=by
 have h:=Lib.contains_iff_indexByte l 42
 rw[←h]
 by_cases hm:(42:UInt8)∈l
 ·rw [decide_eq_true hm];simpa using hm
 ·rw [decide_eq_false hm];simpa using hm
theorem Fil.move {r:Option FT} {w wm w' wz:World} {b:Bool} {h0:Nat} {v0 v1 v2 v3 v4 v5 v6:Value} (hf:Fil r wm w' b v0 v1 v2 v3 v4 v5 v6) (hb:Below w.heap.size w wm) (hg:w'.grownBy wz (some h0)) (h0w:w.heap.size≤h0) (h0m:h0<wm.heap.size):Fil r w wz b v0 v1 v2 v3 v4 v5 v6:=by
 obtain⟨⟨t,ht,hr⟩,hbel⟩:=hf
 have h1:=hb.size
 have h2:=hbel.size
 have h3:=hg.size
 refine⟨⟨t,FInP.move (fun x hx=>World.cell?_of_block (hg.block _ hx.2 (fun e=>by have:=Option.some.inj e;omega))) (fun g hx=>⟨by omega,by omega⟩) ht,hr⟩,?_⟩
 exact hb.trans ((hbel.mono hb.size).trans (below_of_grown hg (fun k hk=>by cases hk;exact h0w) (by omega)))
theorem Fil.one {r:Option FT} {w w':World} {b:Bool} {v0 v1 v2 v3 v4 v5 v6:Value} (h:Fil r w w' b v0 v1 v2 v3 v4 v5 v6):∀u∈[v0,v1,v2,v3,v4,v5,v6],u.oneCell'=true:=by
 obtain⟨t,ht,_⟩:=h.fil
 exact ht.one
theorem Fil.shape {r:Option FT} {w w':World} {b:Bool} {v0 v1 v2 v3 v4 v5 v6:Value} (h:Fil r w w' b v0 v1 v2 v3 v4 v5 v6):∃(k:Int) (a v f l:ByteArray) (A:Option Addr) (m c:Nat) (D:Option Addr) (n d:Nat),v0=.int .i64 k∧v1=.string a∧v2=.string v∧v3=.string f∧v4=.string l∧v5=.slice A m c∧v6=.slice D n d:=by
 obtain⟨t,ht,_⟩:=h.fil
 exact (ht.fin (B:=w'.heap.size) (fun b hb=>hb.2)).shape
theorem jsimpler_any (t:List UInt8) (hl:t.length≤20000) (w:World) (hT:FM w):
  Calls Tryz.prog 47 #[.string (txt t)] w (SimPost (FT.simpleF t) w):=by
 have hR0:=Out7.new (u0:=.int .i64 0) (u1:=.string ⟨#[]⟩) (u2:=.string ⟨#[]⟩) (u3:=.string ⟨#[]⟩) (u4:=.string ⟨#[]⟩) (u5:=.slice none 0 0) (u6:=.slice none 0 0) w 33
 have hb0:=below1 w (.cells #[.int .i64 0,.string ⟨#[]⟩,.string ⟨#[]⟩,.string ⟨#[]⟩,.string ⟨#[]⟩,.slice none 0 0,.slice none 0 0] 33)
 obtain⟨w1,hw1⟩:∃w1,w.alloc (.cells #[.int .i64 0,.string ⟨#[]⟩,.string ⟨#[]⟩,.string ⟨#[]⟩,.string ⟨#[]⟩,.slice none 0 0,.slice none 0 0] 33)=w1:=⟨_,rfl⟩
 rw[hw1] at hR0 hb0
 have hlt0:w.heap.size<w1.heap.size:=by rw[←hw1];simp
 have HRzw1:=hide hR0
 have HBw1:=hide hb0
 have HTw1:=hide (hT.below hb0)
 have HW1:=hide hw1
 have Hlt0:=hide hlt0
 have hCu:=fun w hM=>cutat_any t [61] (by omega) w hM
 obtain⟨R,hR⟩:∃R,FT.simpleF t=R:=⟨_,rfl⟩
 rw[hR]
 obtain⟨h1c,h2c⟩:=cut_isC (c:=61) (l:=t)
 obtain⟨st,hst⟩:∃st,txt t=st:=⟨_,rfl⟩
 have he61:txt [61]=⟨#[61]⟩:=rfl
 cases hc:FT.cutF 61 t with
 | none=>
  have hR2:Hid (R=none):=hide (by rw[←hR];unfold FT.simpleF;rw[hc])
  rw[h1c hc] at hCu
  simp only[hst,he61] at hCu
  have HCu:=hide hCu
  rw[hst]
  clear hR hst hCu hw1 hb0 hR0 hlt0 hT hc h1c h2c
  go_enter Tryz.func47,Tryz.ntmps47
  go_upto_region 1 with fail
  rw[HW1.out]
  go_wp2_with (go_at_call 46;fail)
  refine (HCu.out _ HTw1.out.tm.mx).mono ?_
  rintro e w2 ⟨rfl,hbn⟩
  have HBw2:=hide (HBw1.out.trans (hbn.mono HBw1.out.size))
  have HRzw2:=hide (HRzw1.out.below HRzw1.out.lt hbn)
  have HTw2:=hide (HTw1.out.below hbn)
  clear hbn
  go_wp2_with (refine store7 _ rfl (.tmp 2) (.tmp 19) rfl w.heap.size _ _ _ _ _ _ _ (.int .i64 0) (.string ⟨#[]⟩) (.string ⟨#[]⟩) (.string ⟨#[]⟩) (.string ⟨#[]⟩) (.slice none 0 0) (.slice none 0 0) rfl rfl HRzw2.out (by simp[Value.oneCell']) ?_)
  intro wz hOz hgz
  have HOz:=hide hOz
  have Hgz:=hide hgz
  clear hOz hgz
  go_wp2
  refine bodyPost_ret (v:=.tuple #[.agg #[.int .i64 0,.string ⟨#[]⟩,.string ⟨#[]⟩,.string ⟨#[]⟩,.string ⟨#[]⟩,.slice none 0 0,.slice none 0 0],.bool false]) ?_ rfl ?_
  ·exact results_cell2 rfl _ wz w.heap.size [.int .i64 0,.string ⟨#[]⟩,.string ⟨#[]⟩,.string ⟨#[]⟩,.string ⟨#[]⟩,.slice none 0 0,.slice none 0 0] _ _ rfl rfl HOz.out.range Tryz.underlying33 rfl (by kernel_rfl)
  ·have hbz:=HBw2.out.trans (below_of_grown Hgz.out (fun k hk=>by cases hk;exact Nat.le_refl _) HBw2.out.size)
   exact⟨⟨_,_,_,_,_,_,_,_,rfl,⟨⟨_,finp_zero _ _,hR2.out⟩,hbz⟩⟩⟩
 | some p=>
  obtain⟨h,x⟩:=p
  obtain⟨hcc,hlen⟩:=h2c h x hc
  rw[hcc] at hCu
  simp only[hst,he61] at hCu
  obtain⟨sh,hsh⟩:∃sh,txt h=sh:=⟨_,rfl⟩
  obtain⟨sx,hsx⟩:∃sx,txt x=sx:=⟨_,rfl⟩
  have hHd:=fun w hT=>jhead_any h (by omega) w hT
  obtain⟨k,hk⟩:∃k,(FT.headF h).1=k:=⟨_,rfl⟩
  obtain⟨a,ha⟩:∃a,(FT.headF h).2=a:=⟨_,rfl⟩
  obtain⟨sa,hsa⟩:∃sa,txt a=sa:=⟨_,rfl⟩
  have Hsa:=hide hsa
  rw[hsh,hk,ha,hsa] at hHd
  rw[hsh,hsx] at hCu
  have hRd:R=if k≠3∨42 ∉ x then (FT.valF x).map fun v=>.mk k a v [] [] [] [] else if x=[42] then some (.mk 7 a [] [] [] [] []) else (FT.valsF (FT.splF x)).map (FT.mkP a):=by
   rw[←hR];unfold FT.simpleF;rw[hc];simp only[hk,ha]
  have HR:=hide hRd
  have HCu:=hide hCu
  have HHd:=hide hHd
  have hcn:=fun w=>Tryz.strings_Contains_one (txt x) 42 w
  rw[txt_toList,contains_one,hsx] at hcn
  have hxl:x.length≤20000:=by omega
  rw[hst]
  clear hR hst hCu hHd hw1 hb0 hR0 hlt0 hT hc h1c h2c hcc hlen hsh hk ha hsa hRd hl
  by_cases k3:k=3
  ·have z3:(k==3)=true:=by rw[k3];rfl
   have z3':(k !=3)=false:=by unfold bne;rw[z3];rfl
   by_cases hm:(42:UInt8)∈x
   ·rw [decide_eq_true hm] at hcn
    by_cases h1:x=[42]
    ·have hR2:Hid (R=some (.mk 7 a [] [] [] [] [])):=hide (by rw[HR.out,if_neg (by simp[k3,hm]),if_pos h1])
     have hse:(sx.toList==[42])=true:=by rw[←hsx,h1,txt_bytes];rfl
     have HCn:=hide hcn
     clear HR hcn hsx h1 hm k3 hxl
     go_enter Tryz.func47,Tryz.ntmps47
     go_upto_region 1 with fail
     rw[HW1.out]
     go_wp2_with (go_at_call 46;fail)
     refine (HCu.out _ HTw1.out.tm.mx).mono ?_
     rintro e w2 ⟨rfl,hbn⟩
     have HBw2:=hide (HBw1.out.trans (hbn.mono HBw1.out.size))
     have HRzw2:=hide (HRzw1.out.below HRzw1.out.lt hbn)
     have HTw2:=hide (HTw1.out.below hbn)
     clear hbn
     go_wp2_with (go_at_call 65;fail)
     refine (HHd.out _ HTw2.out.marks).mono ?_
     rintro e w3 ⟨rfl,hbn⟩
     have HBw3:=hide (HBw2.out.trans (hbn.mono HBw2.out.size))
     have HRzw3:=hide (HRzw2.out.below HRzw2.out.lt hbn)
     have HTw3:=hide (HTw2.out.below hbn)
     clear hbn
     go_wp2_with (go_at_call 66;fail)
     refine (HCn.out _).mono ?_
     rintro e w9 ⟨rfl,hw9⟩
     obtain rfl:=hw9.symm
     clear hw9
     go_wp2_with (refine store7 _ rfl (.tmp 2) (.tmp 47) rfl w.heap.size _ _ _ _ _ _ _ (.int .i64 7) (.string sa) (.string ⟨#[]⟩) (.string ⟨#[]⟩) (.string ⟨#[]⟩) (.slice none 0 0) (.slice none 0 0) rfl rfl HRzw3.out (by simp[Value.oneCell']) ?_)
     intro wz hOz hgz
     have HOz:=hide hOz
     have Hgz:=hide hgz
     clear hOz hgz
     go_wp2
     refine bodyPost_ret (v:=.tuple #[.agg #[.int .i64 7,.string sa,.string ⟨#[]⟩,.string ⟨#[]⟩,.string ⟨#[]⟩,.slice none 0 0,.slice none 0 0],.bool true]) ?_ rfl ?_
     ·exact results_cell2 rfl _ wz w.heap.size [.int .i64 7,.string sa,.string ⟨#[]⟩,.string ⟨#[]⟩,.string ⟨#[]⟩,.slice none 0 0,.slice none 0 0] _ _ rfl rfl HOz.out.range Tryz.underlying33 rfl (by kernel_rfl)
     ·have hbz:=HBw3.out.trans (below_of_grown Hgz.out (fun k hk=>by cases hk;exact Nat.le_refl _) HBw3.out.size)
      have hfi:=finp_flat wz (fun g=>w.heap.size≤g∧g<wz.heap.size) 7 a [] [] [] 0 0
      rw[Hsa.out] at hfi
      exact⟨⟨_,_,_,_,_,_,_,_,rfl,⟨⟨_,hfi,hR2.out⟩,hbz⟩⟩⟩
    ·have hR2:Hid (R=(FT.valsF (FT.splF x)).map (FT.mkP a)):=hide (by rw[HR.out,if_neg (by simp[k3,hm]),if_neg h1])
     have hse:(sx.toList==[42])=false:=by rw[←hsx,txt_bytes];simpa using h1
     have hpc:=fun w hT=>jpieces_any a x hxl hm w hT
     rw[←hR2.out,Hsa.out,hsx] at hpc
     have HPc:=hide hpc
     have HCn:=hide hcn
     clear HR hcn hsx h1 hm k3 hxl hpc
     go_enter Tryz.func47,Tryz.ntmps47
     go_upto_region 1 with fail
     rw[HW1.out]
     go_wp2_with (go_at_call 46;fail)
     refine (HCu.out _ HTw1.out.tm.mx).mono ?_
     rintro e w2 ⟨rfl,hbn⟩
     have HBw2:=hide (HBw1.out.trans (hbn.mono HBw1.out.size))
     have HRzw2:=hide (HRzw1.out.below HRzw1.out.lt hbn)
     have HTw2:=hide (HTw1.out.below hbn)
     clear hbn
     go_wp2_with (go_at_call 65;fail)
     refine (HHd.out _ HTw2.out.marks).mono ?_
     rintro e w3 ⟨rfl,hbn⟩
     have HBw3:=hide (HBw2.out.trans (hbn.mono HBw2.out.size))
     have HRzw3:=hide (HRzw2.out.below HRzw2.out.lt hbn)
     have HTw3:=hide (HTw2.out.below hbn)
     clear hbn
     go_wp2_with (go_at_call 66;fail)
     refine (HCn.out _).mono ?_
     rintro e w9 ⟨rfl,hw9⟩
     obtain rfl:=hw9.symm
     clear hw9
     go_wp2_with (go_at_call 68;fail)
     refine (HPc.out _ HTw3.out.tm).mono ?_
     rintro e w4 hpost
     obtain⟨v0,v1,v2,v3,v4,v5,v6,b,rfl,hfil⟩:=hpost.out
     have HFil:=hide hfil
     have HRzw4:=hide (HRzw3.out.below HRzw3.out.lt hfil.bel)
     clear hpost hfil
     go_wp2_with (refine store7 _ rfl (.tmp 2) (.tmp 51) rfl w.heap.size _ _ _ _ _ _ _ (v0) (v1) (v2) (v3) (v4) (v5) (v6) rfl rfl HRzw4.out HFil.out.one ?_)
     intro wz hOz hgz
     have HOz:=hide hOz
     have Hgz:=hide hgz
     clear hOz hgz
     go_wp2
     refine bodyPost_ret (v:=.tuple #[.agg #[v0,v1,v2,v3,v4,v5,v6],.bool b]) ?_ rfl ?_
     ·exact results_cell2 rfl _ wz w.heap.size [v0,v1,v2,v3,v4,v5,v6] _ _ rfl rfl HOz.out.range Tryz.underlying33 rfl (by kernel_rfl)
     ·exact ⟨⟨_,_,_,_,_,_,_,_,rfl,HFil.out.move HBw3.out Hgz.out (Nat.le_refl _) HRzw3.out.lt⟩⟩
   ·rw [decide_eq_false hm] at hcn
    have hs:(if k≠3∨42 ∉ x then (FT.valF x).map fun v=>FT.mk k a v [] [] [] [] else if x=[42] then some (.mk 7 a [] [] [] [] []) else (FT.valsF (FT.splF x)).map (FT.mkP a))=(FT.valF x).map fun v=>FT.mk k a v [] [] [] []:=by rw[if_pos (.inr hm)]
    have hV:=fun w hT=>jvalue_any (txt x) (by rw[txt_size];omega) w hT
    simp only[txt_toList] at hV
    obtain⟨o,ho⟩:∃o,FT.valF x=o:=⟨_,rfl⟩
    obtain⟨sv,hsv⟩:∃sv,txt (o.getD [])=sv:=⟨_,rfl⟩
    have hR2:Hid (R=if o.isSome then some (.mk k a (o.getD []) [] [] [] []) else none):=hide (by rw[HR.out,hs,ho];cases o<;>rfl)
    rw[ho,hsv] at hV
    obtain⟨ob,hob⟩:∃ob,o.isSome=ob:=⟨_,rfl⟩
    rw[hob] at hV hR2
    have HV:=hide hV
    have Hsv:=hide hsv
    clear hV hsv ho hob hs
    rw[hsx] at HV
    have HCn:=hide hcn
    clear HR hcn hsx hm k3 hxl
    go_enter Tryz.func47,Tryz.ntmps47
    go_upto_region 1 with fail
    rw[HW1.out]
    go_wp2_with (go_at_call 46;fail)
    refine (HCu.out _ HTw1.out.tm.mx).mono ?_
    rintro e w2 ⟨rfl,hbn⟩
    have HBw2:=hide (HBw1.out.trans (hbn.mono HBw1.out.size))
    have HRzw2:=hide (HRzw1.out.below HRzw1.out.lt hbn)
    have HTw2:=hide (HTw1.out.below hbn)
    clear hbn
    go_wp2_with (go_at_call 65;fail)
    refine (HHd.out _ HTw2.out.marks).mono ?_
    rintro e w3 ⟨rfl,hbn⟩
    have HBw3:=hide (HBw2.out.trans (hbn.mono HBw2.out.size))
    have HRzw3:=hide (HRzw2.out.below HRzw2.out.lt hbn)
    have HTw3:=hide (HTw2.out.below hbn)
    clear hbn
    go_wp2_with (go_at_call 66;fail)
    refine (HCn.out _).mono ?_
    rintro e w9 ⟨rfl,hw9⟩
    obtain rfl:=hw9.symm
    clear hw9
    go_wp2_with (go_at_call 67;fail)
    refine (HV.out _ HTw3.out.tm.tt.tabs).mono ?_
    rintro e w5 ⟨rfl,hbn⟩
    have HBw5:=hide (HBw3.out.trans (hbn.mono HBw3.out.size))
    have HRzw5:=hide (HRzw3.out.below HRzw3.out.lt hbn)
    have HTw5:=hide (HTw3.out.below hbn)
    clear hbn
    go_wp2_with (refine store7 _ rfl (.tmp 2) (.tmp 41) rfl w.heap.size _ _ _ _ _ _ _ (.int .i64 k) (.string sa) (.string sv) (.string ⟨#[]⟩) (.string ⟨#[]⟩) (.slice none 0 0) (.slice none 0 0) rfl rfl HRzw5.out (by simp[Value.oneCell']) ?_)
    intro wz hOz hgz
    have HOz:=hide hOz
    have Hgz:=hide hgz
    clear hOz hgz
    go_wp2
    refine bodyPost_ret (v:=.tuple #[.agg #[.int .i64 k,.string sa,.string sv,.string ⟨#[]⟩,.string ⟨#[]⟩,.slice none 0 0,.slice none 0 0],.bool ob]) ?_ rfl ?_
    ·exact results_cell2 rfl _ wz w.heap.size [.int .i64 k,.string sa,.string sv,.string ⟨#[]⟩,.string ⟨#[]⟩,.slice none 0 0,.slice none 0 0] _ _ rfl rfl HOz.out.range Tryz.underlying33 rfl (by kernel_rfl)
    ·have hbz:=HBw5.out.trans (below_of_grown Hgz.out (fun k hk=>by cases hk;exact Nat.le_refl _) HBw5.out.size)
     have hfi:=finp_flat wz (fun g=>w.heap.size≤g∧g<wz.heap.size) k a (o.getD []) [] [] 0 0
     rw[Hsa.out,Hsv.out] at hfi
     exact⟨⟨_,_,_,_,_,_,_,_,rfl,⟨⟨_,hfi,hR2.out⟩,hbz⟩⟩⟩
  ·have z3:(k==3)=false:=beq_false_of_ne k3
   have z3':(k !=3)=true:=by unfold bne;rw[z3];rfl
   have hs:(if k≠3∨42 ∉ x then (FT.valF x).map fun v=>FT.mk k a v [] [] [] [] else if x=[42] then some (.mk 7 a [] [] [] [] []) else (FT.valsF (FT.splF x)).map (FT.mkP a))=(FT.valF x).map fun v=>FT.mk k a v [] [] [] []:=by rw[if_pos (.inl k3)]
   have hV:=fun w hT=>jvalue_any (txt x) (by rw[txt_size];omega) w hT
   simp only[txt_toList] at hV
   obtain⟨o,ho⟩:∃o,FT.valF x=o:=⟨_,rfl⟩
   obtain⟨sv,hsv⟩:∃sv,txt (o.getD [])=sv:=⟨_,rfl⟩
   have hR2:Hid (R=if o.isSome then some (.mk k a (o.getD []) [] [] [] []) else none):=hide (by rw[HR.out,hs,ho];cases o<;>rfl)
   rw[ho,hsv] at hV
   obtain⟨ob,hob⟩:∃ob,o.isSome=ob:=⟨_,rfl⟩
   rw[hob] at hV hR2
   have HV:=hide hV
   have Hsv:=hide hsv
   clear hV hsv ho hob hs
   rw[hsx] at HV
   clear HR hcn hsx k3 hxl
   go_enter Tryz.func47,Tryz.ntmps47
   go_upto_region 1 with fail
   rw[HW1.out]
   go_wp2_with (go_at_call 46;fail)
   refine (HCu.out _ HTw1.out.tm.mx).mono ?_
   rintro e w2 ⟨rfl,hbn⟩
   have HBw2:=hide (HBw1.out.trans (hbn.mono HBw1.out.size))
   have HRzw2:=hide (HRzw1.out.below HRzw1.out.lt hbn)
   have HTw2:=hide (HTw1.out.below hbn)
   clear hbn
   go_wp2_with (go_at_call 65;fail)
   refine (HHd.out _ HTw2.out.marks).mono ?_
   rintro e w3 ⟨rfl,hbn⟩
   have HBw3:=hide (HBw2.out.trans (hbn.mono HBw2.out.size))
   have HRzw3:=hide (HRzw2.out.below HRzw2.out.lt hbn)
   have HTw3:=hide (HTw2.out.below hbn)
   clear hbn
   go_wp2_with (go_at_call 67;fail)
   refine (HV.out _ HTw3.out.tm.tt.tabs).mono ?_
   rintro e w5 ⟨rfl,hbn⟩
   have HBw5:=hide (HBw3.out.trans (hbn.mono HBw3.out.size))
   have HRzw5:=hide (HRzw3.out.below HRzw3.out.lt hbn)
   have HTw5:=hide (HTw3.out.below hbn)
   clear hbn
   go_wp2_with (refine store7 _ rfl (.tmp 2) (.tmp 41) rfl w.heap.size _ _ _ _ _ _ _ (.int .i64 k) (.string sa) (.string sv) (.string ⟨#[]⟩) (.string ⟨#[]⟩) (.slice none 0 0) (.slice none 0 0) rfl rfl HRzw5.out (by simp[Value.oneCell']) ?_)
   intro wz hOz hgz
   have HOz:=hide hOz
   have Hgz:=hide hgz
   clear hOz hgz
   go_wp2
   refine bodyPost_ret (v:=.tuple #[.agg #[.int .i64 k,.string sa,.string sv,.string ⟨#[]⟩,.string ⟨#[]⟩,.slice none 0 0,.slice none 0 0],.bool ob]) ?_ rfl ?_
   ·exact results_cell2 rfl _ wz w.heap.size [.int .i64 k,.string sa,.string sv,.string ⟨#[]⟩,.string ⟨#[]⟩,.slice none 0 0,.slice none 0 0] _ _ rfl rfl HOz.out.range Tryz.underlying33 rfl (by kernel_rfl)
   ·have hbz:=HBw5.out.trans (below_of_grown Hgz.out (fun k hk=>by cases hk;exact Nat.le_refl _) HBw5.out.size)
    have hfi:=finp_flat wz (fun g=>w.heap.size≤g∧g<wz.heap.size) k a (o.getD []) [] [] 0 0
    rw[Hsa.out,Hsv.out] at hfi
    exact⟨⟨_,_,_,_,_,_,_,_,rfl,⟨⟨_,hfi,hR2.out⟩,hbz⟩⟩⟩
end Go.Proofs.YtaolhefllfnmiaaGreatDoor
namespace Go.Proofs.YtaolhefllfnmiaaGreatDoor
open Go.RowKit
set_option linter.unusedVariables false
def isHd (c:UInt8):List UInt8→Bool
 | []=>false
 | x::_=>x==c
theorem prefix_hd (l:List UInt8) (c:UInt8):Lib.hasPrefix l [c]=isHd c l:=by rw[prefix_one];cases l<;>rfl
theorem hd_true {c:UInt8}:∀{l:List UInt8},isHd c l=true→∃q,l=c::q
 | [],h=>by cases h
 | x::y,h=>⟨y,by rw[show x=c from by simpa[isHd] using h]⟩
theorem hd_false {c:UInt8} {l:List UInt8} (h:isHd c l=false):∀q,l≠c::q:=fun q e=>by rw[e] at h;simp[isHd] at h
structure RdPost (r:Option (FT × List UInt8)) (w:World) (e:Ending) (w':World):Prop where
 out:∃v0 v1 v2 v3 v4 v5 v6 b q,e=.returned (.tuple #[.agg #[v0,v1,v2,v3,v4,v5,v6],.string q,.bool b])∧Fil (r.map (·.1)) w w' b v0 v1 v2 v3 v4 v5 v6∧(∀t rest,r=some (t,rest)→q=txt rest)
theorem kind_fin:∀j:Fin 256,Lib.indexByte [38,124,33] (UInt8.ofNat j.val)=(match FT.kindF (UInt8.ofNat j.val) with | some k=>k | none=> -1):=by decide+kernel
theorem kind_is (c:UInt8):Lib.indexByte [38,124,33] c=(match FT.kindF c with | some k=>k | none=> -1):=by
 have:=kind_fin ⟨c.toNat,c.toNat_lt⟩
 simpa using this
theorem kind_ge {c:UInt8} {k:Int} (h:FT.kindF c=some k):k=0∨k=1∨k=2:=by
 unfold FT.kindF at h
 split at h
 ·cases h;exact .inl rfl
 ·split at h
  ·cases h;exact .inr (.inl rfl)
  ·split at h
   ·cases h;exact .inr (.inr rfl)
   ·cases h
theorem ThL.told {w wc wr wz:World} {b7 h0:Nat} {k:Int} {D:Option Addr} {np d:Nat} {xs:List Value} {ps:List FT}
  (hL:ThL 33 wc wr b7 k ⟨#[]⟩ ⟨#[]⟩ ⟨#[]⟩ ⟨#[]⟩ (.slice none 0 0) (.slice D np d) np xs ps) (hn:ps.length=np) (hn5:np≤100000) (h0w:w.heap.size≤h0) (h0c:h0<wc.heap.size) (hb7:w.heap.size≤b7) (hwc:Below w.heap.size w wc) (hg:wr.grownBy wz (some h0)):
  FInP wz (fun g=>w.heap.size≤g∧g<wz.heap.size) (.mk k [] [] [] [] [] ps) [.int .i64 k,.string ⟨#[]⟩,.string ⟨#[]⟩,.string ⟨#[]⟩,.string ⟨#[]⟩,.slice none 0 0,.slice D np d]∧Below w.heap.size w wz:=by
 have hs1:=hL.grown.size
 have hsz:=hg.size
 have hs3:=hwc.size
 subst hn
 obtain⟨D',d',e1,_,hP1⟩:=own_formP hL.own
 cases e1
 refine⟨?_,hwc.trans ((below_of_grown hL.grown (fun k hk=>by cases hk;exact hb7) hs3).trans (below_of_grown hg (fun k hk=>by cases hk;exact h0w) (by omega)))⟩
 simp only[FInP]
 refine⟨none,0,D,d,xs,rfl,⟨Nat.zero_le _,by unfold maxLen;omega⟩,⟨rfl,.inl rfl⟩,?_,?_⟩
 ·exact hP1.move (fun x hx=>World.cell?_of_block (hg.block _ hx.2 (fun e=>by have:=Option.some.inj e;omega))) (fun b hx=>⟨by omega,by omega⟩)
 ·exact FsInP.move (fun x hx=>World.cell?_of_block (hg.block _ hx.2.1 (fun e=>by have:=Option.some.inj e;omega))) (fun b hx=>⟨by omega,by omega⟩) hL.parts
theorem ThL.on {wc wr w4:World} {b7:Nat} {k:Int} {v6:Value} {j:Nat} {xs:List Value} {ps:List FT} (h:ThL 33 wc wr b7 k ⟨#[]⟩ ⟨#[]⟩ ⟨#[]⟩ ⟨#[]⟩ (.slice none 0 0) v6 j xs ps) (hb:Below wr.heap.size wr w4):ThL 33 wc w4 b7 k ⟨#[]⟩ ⟨#[]⟩ ⟨#[]⟩ ⟨#[]⟩ (.slice none 0 0) v6 j xs ps:=
 ⟨grown_on h.grown hb,h.out.below h.out.lt hb,own_below h.own hb,FsInP.move (fun x hx=>hb.cell hx.2.1) (fun b hx=>⟨hx.1,Nat.lt_of_lt_of_le hx.2.1 hb.size,hx.2.2⟩) h.parts⟩
theorem jreadparts_any (n:Nat) (hP:∀m,m<n→∀s:List UInt8,s.length≤m→s.length≤20000→∀w,FM w→Calls Tryz.prog 33 #[.string (txt s)] w (RdPost (FT.readF m s) w)) (k:Int) (s:List UInt8) (hs:s.length+1≤n) (hs2:s.length≤20000) (w:World) (hT:FM w):
  Calls Tryz.prog 45 #[.int .i64 k,.string (txt s)] w (RdPost (FT.partsF n k s []) w):=by
 have hR0:=Out7.new (u0:=.int .i64 0) (u1:=.string ⟨#[]⟩) (u2:=.string ⟨#[]⟩) (u3:=.string ⟨#[]⟩) (u4:=.string ⟨#[]⟩) (u5:=.slice none 0 0) (u6:=.slice none 0 0) w 33
 have hb0:=below1 w (.cells #[.int .i64 0,.string ⟨#[]⟩,.string ⟨#[]⟩,.string ⟨#[]⟩,.string ⟨#[]⟩,.slice none 0 0,.slice none 0 0] 33)
 obtain⟨w1,hw1⟩:∃w1,w.alloc (.cells #[.int .i64 0,.string ⟨#[]⟩,.string ⟨#[]⟩,.string ⟨#[]⟩,.string ⟨#[]⟩,.slice none 0 0,.slice none 0 0] 33)=w1:=⟨_,rfl⟩
 have hsz1:w1.heap.size=w.heap.size+1:=by rw[←hw1];simp
 rw[hw1] at hR0 hb0
 have hR7:=Out7.new (u0:=.int .i64 k) (u1:=.string ⟨#[]⟩) (u2:=.string ⟨#[]⟩) (u3:=.string ⟨#[]⟩) (u4:=.string ⟨#[]⟩) (u5:=.slice none 0 0) (u6:=.slice none 0 0) w1 33
 have hb1:=below1 w1 (.cells #[.int .i64 k,.string ⟨#[]⟩,.string ⟨#[]⟩,.string ⟨#[]⟩,.string ⟨#[]⟩,.slice none 0 0,.slice none 0 0] 33)
 obtain⟨w2,hw2⟩:∃w2,w1.alloc (.cells #[.int .i64 k,.string ⟨#[]⟩,.string ⟨#[]⟩,.string ⟨#[]⟩,.string ⟨#[]⟩,.slice none 0 0,.slice none 0 0] 33)=w2:=⟨_,rfl⟩
 have hsz2:w2.heap.size=w.heap.size+2:=by rw[←hw2];simp[hsz1]
 rw[hw2] at hR7 hb1
 rw[hsz1] at hR7
 have HB2:=hide (hb0.trans (hb1.mono hb0.size))
 have HR0:=hide (hR0.below hR0.lt hb1)
 obtain⟨b7,hb7⟩:∃b7,w.heap.size+1=b7:=⟨_,rfl⟩
 rw[hb7] at hR7
 have hL0:ThL 33 w2 w2 b7 k ⟨#[]⟩ ⟨#[]⟩ ⟨#[]⟩ ⟨#[]⟩ (.slice none 0 0) (.slice none 0 0) 0 [] []:=⟨⟨rfl,rfl,rfl,Nat.le_refl _,fun _ _ _=>rfl⟩,hR7,nil_own _ _ _ _,by simp only[FsInP]⟩
 have HL0:=hide hL0
 have HW1:=hide hw1
 have HW2:=hide hw2
 have HSz:=hide (And.intro hsz1 hsz2)
 have Hb7:=hide hb7
 have HT:=hide hT
 have HP:=hide hP
 obtain⟨R,hR⟩:∃R,FT.partsF n k s []=R:=⟨_,rfl⟩
 rw[hR]
 have HR:=hide hR
 have Hs:=hide hs
 have Hs2:=hide hs2
 obtain⟨ss,hss⟩:∃ss,txt s=ss:=⟨_,rfl⟩
 have Hss:=hide hss
 rw[hss]
 clear hss hR hL0 hR7 hR0 hb0 hb1 hw1 hw2 hsz1 hsz2 hb7 hT hP hs hs2
 go_enter Tryz.func45,Tryz.ntmps45
 go_wp2
 rw[HW1.out,HW2.out]
 (try rw[HSz.out.1])
 (try rw[Hb7.out])
 go_loopg [1] n (fun r s1 wx=>∃(s':List UInt8) (j:Nat) (acc:List FT) (v6:Value) (xs:List Value) (q:ByteArray),s1=.string q∧Hid (q=txt s'∧s'.length+1≤r∧s'.length≤20000∧FT.partsF r k s' acc=R∧acc.length=j∧j+s'.length≤20000∧r≤n)∧Hid (ThL 33 w2 wx b7 k ⟨#[]⟩ ⟨#[]⟩ ⟨#[]⟩ ⟨#[]⟩ (.slice none 0 0) v6 j xs acc))
 case atStart=>exact⟨s,0,[],.slice none 0 0,[],ss,rfl,hide ⟨Hss.out.symm,Hs.out,Hs2.out,HR.out,rfl,by have:=Hs2.out;omega,Nat.le_refl _⟩,HL0⟩
 case round=>
  obtain⟨s',j,acc,v6,xs,q,rfl,hst,hth⟩:=hrel
  clear HL0 HW1 HW2 Hss HR
  obtain⟨hq,h1,h2,h3,h4,h5,h6⟩:=hst.out
  have hTr:FM wr:=HT.out.below (HB2.out.trans (below_of_grown hth.out.grown (fun k hk=>by cases hk;have:=Hb7.out;omega) HB2.out.size))
  have HTr:=hide hTr
  have hRz:=HR0.out.keep hth.out.grown.size (hth.out.grown.block _ (by have:=HSz.out;omega) (fun e=>by have:=Option.some.inj e;have:=Hb7.out;omega))
  have HRzwr:=hide hRz
  have hb7lt:b7<w2.heap.size:=by have:=HSz.out;have:=Hb7.out;omega
  have hpf:=fun w=>Tryz.strings_HasPrefix q ⟨#[40]⟩ w
  rw[show (⟨#[40]⟩:ByteArray).data.toList=[40] from rfl] at hpf
  have hqd:q.data.toList=s':=by rw[hq,txt_toList]
  rw[hqd,prefix_hd] at hpf
  obtain⟨A6,c6,hv6,hjc,_⟩:=own_form hth.out.own
  subst hv6
  cases gk with
  | zero=>omega
  | succ r=>
   cases h40:isHd 40 s' with
   | true=>
    obtain⟨q',hq'⟩:=hd_true h40
    rw[h40] at hpf
    have hrd:=HP.out r (by omega) s' (by omega) h2 wr hTr
    rw[←hq] at hrd
    clear h40
    subst hq'
    have HPf:=hide hpf
    have HRd:=hide hrd
    rw[FT.partsF.eq_def] at h3
    simp only[if_true] at h3
    cases hro:FT.readF r (40::q') with
    | none=>
     rw[hro] at HRd h3
     have hRe:=hide h3.symm
     have HTh:=hth
     clear hst hq h1 h2 h3 h4 h5 h6 hTr hRz hpf hqd hrd hro hth HP
     go_wp2_with (go_at_call 63;fail)
     refine (HPf.out _).mono ?_
     rintro e w9 ⟨rfl,hw9⟩
     obtain rfl:=hw9.symm
     clear hw9
     go_wp2_with (go_at_call 33;fail)
     refine HRd.out.mono ?_
     rintro e w4 hpost
     obtain⟨v0,v1,v2,v3,v4,v5,v6,b,q2,rfl,hfil,_⟩:=hpost.out
     obtain⟨pk,pa,pv,pfs,pl,pA,pm,pc,pD,pn,pd,rfl,rfl,rfl,rfl,rfl,rfl,rfl⟩:=hfil.shape
     have hbf:b=false:=by
      obtain⟨t,_,ht⟩:=hfil.fil
      cases b with
      | false=>rfl
      | true=>simp at ht
     subst hbf
     have hTh4:=HTh.out.on hfil.bel
     have hRz4:=HRzwr.out.below HRzwr.out.lt hfil.bel
     have hbx:=below1 w4 (.cells #[.int .i64 pk,.string pa,.string pv,.string pfs,.string pl,.slice pA pm pc,.slice pD pn pd] 33)
     have HTh5:=hide (hTh4.on hbx)
     have HRz:=hide (hRz4.below hRz4.lt hbx)
     clear hpost hfil hTh4 hRz4 hbx HTr HRd HPf
     go_upto_region 4 with fail
     obtain⟨w5,hw5⟩:∃w5,w4.alloc (.cells #[.int .i64 pk,.string pa,.string pv,.string pfs,.string pl,.slice pA pm pc,.slice pD pn pd] 33)=w5:=⟨_,rfl⟩
     rw[hw5] at HTh5 HRz ⊢
     clear hw5
     go_wp2_with (refine store7 _ rfl (.tmp 4) (.tmp 25) rfl w.heap.size _ _ _ _ _ _ _ (.int .i64 0) (.string ⟨#[]⟩) (.string ⟨#[]⟩) (.string ⟨#[]⟩) (.string ⟨#[]⟩) (.slice none 0 0) (.slice none 0 0) rfl rfl HRz.out (by simp[Value.oneCell']) ?_)
     intro wz hOz hgz
     have HOz:=hide hOz
     have Hgz:=hide hgz
     clear hOz hgz
     go_wp2
     refine bodyPost_ret (v:=.tuple #[.agg #[.int .i64 0,.string ⟨#[]⟩,.string ⟨#[]⟩,.string ⟨#[]⟩,.string ⟨#[]⟩,.slice none 0 0,.slice none 0 0],.string ⟨#[]⟩,.bool false]) ?_ rfl ?_
     ·exact results_cell3 rfl _ wz w.heap.size [.int .i64 0,.string ⟨#[]⟩,.string ⟨#[]⟩,.string ⟨#[]⟩,.string ⟨#[]⟩,.slice none 0 0,.slice none 0 0] _ _ _ rfl rfl rfl HOz.out.range Tryz.underlying33 rfl (by kernel_rfl)
     ·have hbz:Below w.heap.size w wz:=HB2.out.trans ((below_of_grown HTh5.out.grown (fun k hk=>by cases hk;have:=Hb7.out;omega) HB2.out.size).trans (below_of_grown Hgz.out (fun k hk=>by cases hk;exact Nat.le_refl _) (Nat.le_trans HB2.out.size HTh5.out.grown.size)))
      exact⟨⟨_,_,_,_,_,_,_,_,_,rfl,⟨⟨_,finp_zero _ _,by rw[hRe.out];rfl⟩,hbz⟩,fun t rest h=>by rw[hRe.out] at h;cases h⟩⟩
    | some pr=>
     obtain⟨p,rest⟩:=pr
     rw[hro] at HRd h3
     simp only at h3
     have hrl:=FT.readF_len _ _ _ _ hro
     have hsh2:=hide h3
     have HTh:=hth
     have Hst5:=hide (And.intro h1 (And.intro h2 (And.intro h4 (And.intro h5 (And.intro h6 hrl)))))
     clear hst hq h1 h2 h3 h4 h5 h6 hTr hRz hpf hqd hrd hro hth HP hrl
     go_wp2_with (go_at_call 63;fail)
     refine (HPf.out _).mono ?_
     rintro e w9 ⟨rfl,hw9⟩
     obtain rfl:=hw9.symm
     clear hw9
     go_wp2_with (go_at_call 33;fail)
     refine HRd.out.mono ?_
     rintro e w4 hpost
     obtain⟨v0,v1,v2,v3,v4,v5,v6,b,q2,rfl,hfil,hrest⟩:=hpost.out
     obtain⟨pk,pa,pv,pfs,pl,pA,pm,pc,pD,pn,pd,rfl,rfl,rfl,rfl,rfl,rfl,rfl⟩:=hfil.shape
     have hq2:=hrest p rest rfl
     subst hq2
     obtain⟨t5,ht5,hb5⟩:=hfil.fil
     have hbt:b=true∧t5=p:=by
      cases b with
      | false=>simp at hb5
      | true=>simp at hb5;exact⟨rfl,hb5.symm⟩
     obtain⟨rfl,rfl⟩:=hbt
     have hTh4:=HTh.out
     have hb4:=hfil.bel
     have hbx:=below1 w4 (.cells #[.int .i64 pk,.string pa,.string pv,.string pfs,.string pl,.slice pA pm pc,.slice pD pn pd] 33)
     have hTh6:=(hTh4.on hb4).on hbx
     have hb8:=hb4.trans (hbx.mono hb4.size)
     have hy5:FInP (w4.alloc (.cells #[.int .i64 pk,.string pa,.string pv,.string pfs,.string pl,.slice pA pm pc,.slice pD pn pd] 33)) (fun b=>wr.heap.size≤b∧b<(w4.alloc (.cells #[.int .i64 pk,.string pa,.string pv,.string pfs,.string pl,.slice pA pm pc,.slice pD pn pd] 33)).heap.size) t5 [.int .i64 pk,.string pa,.string pv,.string pfs,.string pl,.slice pA pm pc,.slice pD pn pd]:=
      FInP.move (fun x hx=>hbx.cell hx.2) (fun g hx=>⟨hx.1,Nat.lt_of_lt_of_le hx.2 hbx.size⟩) ht5
     have hpx:=Out7.new (u0:=.int .i64 pk) (u1:=.string pa) (u2:=.string pv) (u3:=.string pfs) (u4:=.string pl) (u5:=.slice pA pm pc) (u6:=.slice pD pn pd) w4 33
     have hone5:=ht5.one
     clear hpost hfil hTh4 hb4 hbx HTr HRd HPf hrest hb5 ht5 HRzwr
     go_upto_region 4 with fail
     obtain⟨w5,hw5⟩:∃w5,w4.alloc (.cells #[.int .i64 pk,.string pa,.string pv,.string pfs,.string pl,.slice pA pm pc,.slice pD pn pd] 33)=w5:=⟨_,rfl⟩
     rw[hw5] at hTh6 hb8 hy5 hpx ⊢
     have HTh6:=hide hTh6
     have HB8:=hide hb8
     have HY:=hide hy5
     obtain⟨_,o0,o1,o2,o3,o4,o5,o6,ofz⟩:=hTh6.out
     obtain⟨_,p0,p1,p2,p3,p4,p5,p6,_⟩:=hpx
     have hlit:=World.ownsRow_lit (e:=33) (size:=7) w5 #[.int .i64 pk,.string pa,.string pv,.string pfs,.string pl,.slice pA pm pc,.slice pD pn pd] 1 (Nat.le_refl _) (by unfold maxLen;omega) rfl
     have hOw8:=HTh6.out.own.alloc (.cells #[.int .i64 pk,.string pa,.string pv,.string pfs,.string pl,.slice pA pm pc,.slice pD pn pd] 33)
     have hs8:w2.heap.size≤(w5.alloc (.cells #[.int .i64 pk,.string pa,.string pv,.string pfs,.string pl,.slice pA pm pc,.slice pD pn pd] 33)).heap.size:=by have:=HTh6.out.grown.size;simp;omega
     have hj1:j+1≤1000000:=by have:=Hst5.out.2.2.2.1;omega
     clear hw5 hTh6 hb8 hy5
     go_wp2_with (at_builtin;go_must (refine appF _ rfl (.tmp 27) (.tmp 29) rfl w2.heap.size _ j xs rfl hOw8 _ _ 1 1 [.int .i64 pk,.string pa,.string pv,.string pfs,.string pl,.slice pA pm pc,.slice pD pn pd] rfl (Has.own hlit) hone5 hj1 hs8 ?_))
     intro v9 w9 hown9 hg9 ht9
     have hN:=HTh.out.next hb7lt HB8.out HY.out hown9 hg9 (ht9.imp id fun e=>by rw[e];simp)
     have h9:=own_one hown9
     obtain⟨A9,c9,hv9,_,_⟩:=own_form hown9
     subst hv9
     have HN:=hide hN
     have hlt5:=HTh6.out.out.lt
     have hO9:=HTh6.out.out.keep (Nat.le_trans (by simp) hg9.size) ((hg9.block b7 (by simp;omega) (fun e=>by have:=(HTh6.out.own.lt b7 e.symm).1;omega)).trans (heap_alloc_old w5 _ hlt5))
     clear o0 o1 o2 o3 o4 o5 o6 ofz p0 p1 p2 p3 p4 p5 p6 hlit hOw8 hs8 hj1 hown9 hg9 ht9 hN h9 HTh6 HB8 HY HTh hone5
     obtain⟨_,o0,o1,o2,o3,o4,o5,o6,ofz⟩:=hO9
     have of6:=ofz 6
     clear ofz
     obtain⟨sr,hsr⟩:∃sr,txt rest=sr:=⟨_,rfl⟩
     rw[hsr]
     have Hsr:=hide hsr
     clear hsr
     go_wp2
     go_roundg r
     case measure=>omega
     case rel=>
      obtain⟨g1,g2,g4,g5,g6,grl⟩:=Hst5.out
      exact⟨rest,j+1,acc++[t5],_,_,sr,rfl,hide ⟨Hsr.out.symm,by omega,by simp only[List.length_cons] at grl g2;omega,hsh2.out,by simp[g4],by simp only[List.length_cons] at grl g5;omega,by omega⟩,HN⟩
   | false=>
    rw[h40] at hpf
    have HPf:=hide hpf
    obtain⟨o,ho⟩:∃o,(match s' with | []=>none | x::y=>if x=41 then some y else none:Option (List UInt8))=o:=⟨_,rfl⟩
    have hRe:Hid (R=o.map fun y=>(.mk k [] [] [] [] [] acc,y)):=hide (by
     rw[←h3,←ho,FT.partsF.eq_def]
     cases s' with
     | nil=>rfl
     | cons x y=>
      simp only
      rw[if_neg (fun e=>hd_false h40 y (by rw[e]))]
      by_cases h:x=41
      ·rw [if_pos h,if_pos h];rfl
      ·rw [if_neg h,if_neg h];rfl)
    have hcp:=fun w=>cutpre_any s' [41] w
    have hpo:Lib.hasPrefix s' [41]=o.isSome∧(if Lib.hasPrefix s' [41] then s'.drop [(41:UInt8)].length else s')=o.getD s':=by
     rw[prefix_hd,←ho]
     cases s' with
     | nil=>exact⟨rfl,rfl⟩
     | cons x y=>
      by_cases h:x=41
      ·subst h;exact⟨rfl,rfl⟩
      ·simp [h,isHd]
    rw[hpo.2,hpo.1,←hq,show txt [41]=⟨#[41]⟩ from rfl] at hcp
    obtain⟨ob,hob⟩:∃ob,o.isSome=ob:=⟨_,rfl⟩
    obtain⟨so,hso⟩:∃so,txt (o.getD s')=so:=⟨_,rfl⟩
    rw[hob,hso] at hcp
    have HCp:=hide hcp
    have Hso:=hide hso
    have Hob:=hide hob
    have HTh:=hth
    have Hst5:=hide (And.intro h4 h5)
    have HRz:=HRzwr
    clear hst hq h1 h2 h3 h4 h5 h6 hTr hRz hpf hqd hth HP ho hcp hpo hso hob h40 HRzwr HTr
    go_wp2_with (go_at_call 63;fail)
    refine (HPf.out _).mono ?_
    rintro e w9 ⟨rfl,hw9⟩
    obtain rfl:=hw9.symm
    clear hw9 HPf
    go_wp2_with (go_at_call 43;fail)
    refine (HCp.out _).mono ?_
    rintro e w9 ⟨rfl,hw9⟩
    obtain rfl:=hw9.symm
    clear hw9 HCp
    obtain⟨_,o0,o1,o2,o3,o4,o5,o6,ofz⟩:=HTh.out.out
    clear ofz
    go_wp2_with (refine store7 _ rfl (.tmp 4) (.tmp 38) rfl w.heap.size _ _ _ _ _ _ _ (.int .i64 k) (.string ⟨#[]⟩) (.string ⟨#[]⟩) (.string ⟨#[]⟩) (.string ⟨#[]⟩) (.slice none 0 0) (.slice A6 j c6) rfl rfl HRz.out (by simp[Value.oneCell']) ?_)
    intro wz hOz hgz
    have HOz:=hide hOz
    have Hgz:=hide hgz
    clear hOz hgz
    go_wp2
    refine bodyPost_ret (v:=.tuple #[.agg #[.int .i64 k,.string ⟨#[]⟩,.string ⟨#[]⟩,.string ⟨#[]⟩,.string ⟨#[]⟩,.slice none 0 0,.slice A6 j c6],.string so,.bool ob]) ?_ rfl ?_
    ·exact results_cell3 rfl _ wz w.heap.size [.int .i64 k,.string ⟨#[]⟩,.string ⟨#[]⟩,.string ⟨#[]⟩,.string ⟨#[]⟩,.slice none 0 0,.slice A6 j c6] _ _ _ rfl rfl rfl HOz.out.range Tryz.underlying33 rfl (by kernel_rfl)
    ·have hn5:j≤100000:=by have:=Hst5.out.2;omega
     obtain⟨hfi,hbz⟩:=ThL.told HTh.out Hst5.out.1 hn5 (Nat.le_refl _) (by have:=HSz.out;omega) (by have:=Hb7.out;omega) HB2.out Hgz.out
     refine⟨⟨_,_,_,_,_,_,_,_,_,rfl,⟨⟨_,hfi,?_⟩,hbz⟩,fun t rest h=>?_⟩⟩
     ·rw [hRe.out,←Hob.out];cases o<;>rfl
     ·rw [hRe.out] at h
      cases o with
      | none=>cases h
      | some y=>
       simp only[Option.map_some,Option.some.injEq,Prod.mk.injEq] at h
       rw[←Hso.out,←h.2];rfl
end Go.Proofs.YtaolhefllfnmiaaGreatDoor
namespace Go.Proofs.YtaolhefllfnmiaaGreatDoor
open Go.RowKit
set_option linter.unusedVariables false
theorem Fil.grow {r:Option FT} {w w' w'':World} {b:Bool} {v0 v1 v2 v3 v4 v5 v6:Value} (hf:Fil r w w' b v0 v1 v2 v3 v4 v5 v6) (hb:Below w'.heap.size w' w''):Fil r w w'' b v0 v1 v2 v3 v4 v5 v6:=by
 obtain⟨⟨t,ht,hr⟩,hbel⟩:=hf
 exact⟨⟨t,FInP.move (fun x hx=>hb.cell hx.2) (fun g hx=>⟨hx.1,Nat.lt_of_lt_of_le hx.2 hb.size⟩) ht,hr⟩,hbel.trans (hb.mono hbel.size)⟩
theorem jread_any (n:Nat):∀s:List UInt8,s.length≤n→s.length≤20000→∀w,FM w→Calls Tryz.prog 33 #[.string (txt s)] w (RdPost (FT.readF n s) w):=by
 induction n using Nat.strongRecOn
 rename_i n ih
 intro s hs hs2 w hT
 have hR0:=Out7.new (u0:=.int .i64 0) (u1:=.string ⟨#[]⟩) (u2:=.string ⟨#[]⟩) (u3:=.string ⟨#[]⟩) (u4:=.string ⟨#[]⟩) (u5:=.slice none 0 0) (u6:=.slice none 0 0) w 33
 have hb0:=below1 w (.cells #[.int .i64 0,.string ⟨#[]⟩,.string ⟨#[]⟩,.string ⟨#[]⟩,.string ⟨#[]⟩,.slice none 0 0,.slice none 0 0] 33)
 obtain⟨w1,hw1⟩:∃w1,w.alloc (.cells #[.int .i64 0,.string ⟨#[]⟩,.string ⟨#[]⟩,.string ⟨#[]⟩,.string ⟨#[]⟩,.slice none 0 0,.slice none 0 0] 33)=w1:=⟨_,rfl⟩
 rw[hw1] at hR0 hb0
 have HRzw1:=hide hR0
 have HBw1:=hide hb0
 have HTw1:=hide (hT.below hb0)
 have HW1:=hide hw1
 obtain⟨R,hR⟩:∃R,FT.readF n s=R:=⟨_,rfl⟩
 rw[hR]
 have hcp:=fun w=>cutpre_any s [40] w
 rw[prefix_hd,show txt [40]=⟨#[40]⟩ from rfl] at hcp
 obtain⟨ss,hss⟩:∃ss,txt s=ss:=⟨_,rfl⟩
 clear hT hw1 hR0 hb0
 cases h40:isHd 40 s with
 | false=>
  have hRe:Hid (R=none):=hide (by
   rw[←hR]
   cases n with
   | zero=>rw[FT.readF]
   | succ n=>
    match s,h40 with
    | [],_=>simp[FT.readF]
    | [x],_=>simp[FT.readF]
    | x::c::r,h40=>
     rw[FT.readF.eq_def]
     simp only
     rw[if_neg (fun e=>hd_false h40 (c::r) (by rw[e]))])
  rw[h40] at hcp
  simp only[Bool.false_eq_true,if_false,hss] at hcp
  have HCp:=hide hcp
  rw[hss]
  clear hcp hR hss h40 hs hs2 ih
  go_enter Tryz.func33,Tryz.ntmps33
  go_upto_region 1 with fail
  rw[HW1.out]
  go_wp2_with (go_at_call 43;fail)
  refine (HCp.out _).mono ?_
  rintro e w9 ⟨rfl,hw9⟩
  obtain rfl:=hw9.symm
  clear hw9 HCp
  go_wp2_with (refine store7 _ rfl (.tmp 2) (.tmp 22) rfl w.heap.size _ _ _ _ _ _ _ (.int .i64 0) (.string ⟨#[]⟩) (.string ⟨#[]⟩) (.string ⟨#[]⟩) (.string ⟨#[]⟩) (.slice none 0 0) (.slice none 0 0) rfl rfl HRzw1.out (by simp[Value.oneCell']) ?_)
  intro wz hOz hgz
  have HOz:=hide hOz
  have Hgz:=hide hgz
  clear hOz hgz
  go_wp2
  refine bodyPost_ret (v:=.tuple #[.agg #[.int .i64 0,.string ⟨#[]⟩,.string ⟨#[]⟩,.string ⟨#[]⟩,.string ⟨#[]⟩,.slice none 0 0,.slice none 0 0],.string ⟨#[]⟩,.bool false]) ?_ rfl ?_
  ·exact results_cell3 rfl _ wz w.heap.size [.int .i64 0,.string ⟨#[]⟩,.string ⟨#[]⟩,.string ⟨#[]⟩,.string ⟨#[]⟩,.slice none 0 0,.slice none 0 0] _ _ _ rfl rfl rfl HOz.out.range Tryz.underlying33 rfl (by kernel_rfl)
  ·have hbz:=HBw1.out.trans (below_of_grown Hgz.out (fun k hk=>by cases hk;exact Nat.le_refl _) HBw1.out.size)
   exact⟨⟨_,_,_,_,_,_,_,_,_,rfl,⟨⟨_,finp_zero _ _,by rw[hRe.out];rfl⟩,hbz⟩,fun t rest h=>by rw[hRe.out] at h;cases h⟩⟩
 | true=>
  obtain⟨q,hq⟩:=hd_true h40
  rw[h40] at hcp
  clear h40
  subst hq
  simp only[if_true,List.drop_succ_cons,List.length_singleton,List.drop_zero] at hcp
  obtain⟨sq,hsq⟩:∃sq,txt q=sq:=⟨_,rfl⟩
  rw[hss,hsq] at hcp
  have HCp:=hide hcp
  rw[hss]
  simp only[List.length_cons] at hs hs2
  clear hcp hss
  cases q with
  | nil=>
   have hRe:Hid (R=none):=hide (by
    rw[←hR]
    cases n with
    | zero=>rw[FT.readF]
    | succ n=>simp[FT.readF])
   have hse:(sq.toList==[])=true:=by rw[←hsq,txt_bytes];rfl
   clear hR hsq hs hs2 ih
   go_enter Tryz.func33,Tryz.ntmps33
   go_upto_region 1 with fail
   rw[HW1.out]
   go_wp2_with (go_at_call 43;fail)
   refine (HCp.out _).mono ?_
   rintro e w9 ⟨rfl,hw9⟩
   obtain rfl:=hw9.symm
   clear hw9 HCp
   go_wp2_with (refine store7 _ rfl (.tmp 2) (.tmp 22) rfl w.heap.size _ _ _ _ _ _ _ (.int .i64 0) (.string ⟨#[]⟩) (.string ⟨#[]⟩) (.string ⟨#[]⟩) (.string ⟨#[]⟩) (.slice none 0 0) (.slice none 0 0) rfl rfl HRzw1.out (by simp[Value.oneCell']) ?_)
   intro wz hOz hgz
   have HOz:=hide hOz
   have Hgz:=hide hgz
   clear hOz hgz
   go_wp2
   refine bodyPost_ret (v:=.tuple #[.agg #[.int .i64 0,.string ⟨#[]⟩,.string ⟨#[]⟩,.string ⟨#[]⟩,.string ⟨#[]⟩,.slice none 0 0,.slice none 0 0],.string ⟨#[]⟩,.bool false]) ?_ rfl ?_
   ·exact results_cell3 rfl _ wz w.heap.size [.int .i64 0,.string ⟨#[]⟩,.string ⟨#[]⟩,.string ⟨#[]⟩,.string ⟨#[]⟩,.slice none 0 0,.slice none 0 0] _ _ _ rfl rfl rfl HOz.out.range Tryz.underlying33 rfl (by kernel_rfl)
   ·have hbz:=HBw1.out.trans (below_of_grown Hgz.out (fun k hk=>by cases hk;exact Nat.le_refl _) HBw1.out.size)
    exact⟨⟨_,_,_,_,_,_,_,_,_,rfl,⟨⟨_,finp_zero _ _,by rw[hRe.out];rfl⟩,hbz⟩,fun t rest h=>by rw[hRe.out] at h;cases h⟩⟩
  | cons c r=>
   have hse:(sq.toList==[])=false:=by rw[←hsq,txt_bytes];rfl
   simp only[List.length_cons] at hs hs2
   have hsz:sq.size=r.length+1:=by rw[←hsq,txt_size];rfl
   have hi0:0<sq.size:=by omega
   have z0:(0:Int)<(sq.size:Int):=by omega
   have z1:(1:Int)≤(sq.size:Int):=by omega
   have hsd:sq.data.toList=c::r:=by rw[←hsq,txt_toList]
   have hx0:sq[0]'hi0=c:=by
    have:=Lib.data_getElem? sq 0 hi0
    rw[hsd] at this
    exact (Option.some.inj this).symm
   have hex:sq.extract 1 sq.size=txt r:=by
    rw[ext_txt,←hsq,txt_toList,txt_size]
    simp
   have hib:=fun w=>Tryz.strings_IndexByte ⟨#[38,124,33]⟩ (c.toNat:Int) w
   have e1:((c.toNat:Int)).toNat.toUInt8=c:=by simp
   rw[e1,show (⟨#[38,124,33]⟩:ByteArray).data.toList=[38,124,33] from rfl,kind_is,←hx0] at hib
   match n,hs,ih,hR with
   | 0,hs,ih,hR=>omega
   | n+1,hs,ih,hR=>
   rw[FT.readF.eq_def] at hR
   simp only[if_true] at hR
   cases hk:FT.kindF c with
   | some k=>
    rw[hk] at hR
    simp only at hR
    have hkg:=kind_ge hk
    have hk0:(0:Int)≤k:=by omega
    rw[hx0,hk] at hib
    simp only at hib
    rw[←hx0] at hib
    have hpr:=fun w hT=>jreadparts_any n (fun m hm=>ih m (by omega)) k r (by omega) (by omega) w hT
    rw[hR] at hpr
    obtain⟨sr,hsr⟩:∃sr,txt r=sr:=⟨_,rfl⟩
    rw[hsr] at hpr hex
    have HIb:=hide hib
    have HPr:=hide hpr
    clear hib hpr hkg hk hR hsr hsq hs hs2 ih hx0 e1 hsz hsd
    go_enter Tryz.func33,Tryz.ntmps33
    go_upto_region 1 with fail
    rw[HW1.out]
    go_wp2_with (go_at_call 43;fail)
    refine (HCp.out _).mono ?_
    rintro e w9 ⟨rfl,hw9⟩
    obtain rfl:=hw9.symm
    clear hw9 HCp
    go_wp2_with (go_at_call 44;fail)
    refine (HIb.out _).mono ?_
    rintro e w9 ⟨rfl,hw9⟩
    obtain rfl:=hw9.symm
    clear hw9 HIb
    go_wp2_with (go_at_call 45;fail)
    refine (HPr.out _ HTw1.out).mono ?_
    rintro e w4 hpost
    obtain⟨v0,v1,v2,v3,v4,v5,v6,b,q2,rfl,hfil,hrest⟩:=hpost.out
    have HFil:=hide hfil
    have HRest:=hide hrest
    have HRzw4:=hide (HRzw1.out.below HRzw1.out.lt hfil.bel)
    clear hpost hfil hrest HPr hex
    go_wp2_with (refine store7 _ rfl (.tmp 2) (.tmp 32) rfl w.heap.size _ _ _ _ _ _ _ (v0) (v1) (v2) (v3) (v4) (v5) (v6) rfl rfl HRzw4.out HFil.out.one ?_)
    intro wz hOz hgz
    have HOz:=hide hOz
    have Hgz:=hide hgz
    clear hOz hgz
    go_wp2
    refine bodyPost_ret (v:=.tuple #[.agg #[v0,v1,v2,v3,v4,v5,v6],.string q2,.bool b]) ?_ rfl ?_
    ·exact results_cell3 rfl _ wz w.heap.size [v0,v1,v2,v3,v4,v5,v6] _ _ _ rfl rfl rfl HOz.out.range Tryz.underlying33 rfl (by kernel_rfl)
    ·exact ⟨⟨_,_,_,_,_,_,_,_,_,rfl,HFil.out.move HBw1.out Hgz.out (Nat.le_refl _) HRzw1.out.lt,HRest.out⟩⟩
   | none=>
    rw[hk] at hR
    simp only at hR
    rw[hx0,hk] at hib
    simp only at hib
    rw[←hx0] at hib
    have hcu:=fun w hM=>cutat_any (c::r) [41] (by simp only[List.length_cons];omega) w hM
    rw[show txt [41]=⟨#[41]⟩ from rfl,hsq] at hcu
    obtain⟨h1c,h2c⟩:=cut_isC (c:=41) (l:=c::r)
    have HIb:=hide hib
    cases hc:FT.cutF 41 (c::r) with
    | none=>
     rw[hc] at hR
     simp only at hR
     have hRe:Hid (R=none):=hide hR.symm
     rw[h1c hc] at hcu
     simp only[hsq] at hcu
     have HCu:=hide hcu
     clear hib hcu hk hR hsq hs hs2 ih hx0 e1 hsz hsd h1c h2c hc hex
     go_enter Tryz.func33,Tryz.ntmps33
     go_upto_region 1 with fail
     rw[HW1.out]
     go_wp2_with (go_at_call 43;fail)
     refine (HCp.out _).mono ?_
     rintro e w9 ⟨rfl,hw9⟩
     obtain rfl:=hw9.symm
     clear hw9 HCp
     go_wp2_with (go_at_call 44;fail)
     refine (HIb.out _).mono ?_
     rintro e w9 ⟨rfl,hw9⟩
     obtain rfl:=hw9.symm
     clear hw9 HIb
     go_wp2_with (go_at_call 46;fail)
     refine (HCu.out _ HTw1.out.tm.mx).mono ?_
     rintro e w2 ⟨rfl,hbn⟩
     have HBw2:=hide (HBw1.out.trans (hbn.mono HBw1.out.size))
     have HRzw2:=hide (HRzw1.out.below HRzw1.out.lt hbn)
     have HTw2:=hide (HTw1.out.below hbn)
     clear hbn
     go_wp2_with (refine store7 _ rfl (.tmp 2) (.tmp 43) rfl w.heap.size _ _ _ _ _ _ _ (.int .i64 0) (.string ⟨#[]⟩) (.string ⟨#[]⟩) (.string ⟨#[]⟩) (.string ⟨#[]⟩) (.slice none 0 0) (.slice none 0 0) rfl rfl HRzw2.out (by simp[Value.oneCell']) ?_)
     intro wz hOz hgz
     have HOz:=hide hOz
     have Hgz:=hide hgz
     clear hOz hgz
     go_wp2
     refine bodyPost_ret (v:=.tuple #[.agg #[.int .i64 0,.string ⟨#[]⟩,.string ⟨#[]⟩,.string ⟨#[]⟩,.string ⟨#[]⟩,.slice none 0 0,.slice none 0 0],.string ⟨#[]⟩,.bool false]) ?_ rfl ?_
     ·exact results_cell3 rfl _ wz w.heap.size [.int .i64 0,.string ⟨#[]⟩,.string ⟨#[]⟩,.string ⟨#[]⟩,.string ⟨#[]⟩,.slice none 0 0,.slice none 0 0] _ _ _ rfl rfl rfl HOz.out.range Tryz.underlying33 rfl (by kernel_rfl)
     ·have hbz:=HBw2.out.trans (below_of_grown Hgz.out (fun k hk=>by cases hk;exact Nat.le_refl _) HBw2.out.size)
      exact⟨⟨_,_,_,_,_,_,_,_,_,rfl,⟨⟨_,finp_zero _ _,by rw[hRe.out];rfl⟩,hbz⟩,fun t rest h=>by rw[hRe.out] at h;cases h⟩⟩
    | some pr=>
     obtain⟨t,rest⟩:=pr
     rw[hc] at hR
     simp only at hR
     obtain⟨hcc,hlen⟩:=h2c t rest hc
     simp only[List.length_cons] at hlen
     rw[hcc] at hcu
     simp only at hcu
     obtain⟨st,hst⟩:∃st,txt t=st:=⟨_,rfl⟩
     obtain⟨sr,hsr⟩:∃sr,txt rest=sr:=⟨_,rfl⟩
     have hsi:=fun w hT=>jsimpler_any t (by omega) w hT
     rw[hst] at hsi
     rw[hst,hsr] at hcu
     have HCu:=hide hcu
     have HSi:=hide hsi
     have HR:=hide hR
     have Hsr:=hide hsr
     clear hib hcu hk hR hsq hs hs2 ih hx0 e1 hsz hsd h1c h2c hc hex hcc hlen hst hsr hsi
     go_enter Tryz.func33,Tryz.ntmps33
     go_upto_region 1 with fail
     rw[HW1.out]
     go_wp2_with (go_at_call 43;fail)
     refine (HCp.out _).mono ?_
     rintro e w9 ⟨rfl,hw9⟩
     obtain rfl:=hw9.symm
     clear hw9 HCp
     go_wp2_with (go_at_call 44;fail)
     refine (HIb.out _).mono ?_
     rintro e w9 ⟨rfl,hw9⟩
     obtain rfl:=hw9.symm
     clear hw9 HIb
     go_wp2_with (go_at_call 46;fail)
     refine (HCu.out _ HTw1.out.tm.mx).mono ?_
     rintro e w2 ⟨rfl,hbn⟩
     have HBw2:=hide (HBw1.out.trans (hbn.mono HBw1.out.size))
     have HRzw2:=hide (HRzw1.out.below HRzw1.out.lt hbn)
     have HTw2:=hide (HTw1.out.below hbn)
     clear hbn
     go_wp2_with (go_at_call 47;fail)
     refine (HSi.out _ HTw2.out).mono ?_
     rintro e w4 hpost
     obtain⟨v0,v1,v2,v3,v4,v5,v6,b,rfl,hfil⟩:=hpost.out
     obtain⟨pk,pa,pv,pfs,pl,pA,pm,pc,pD,pn,pd,rfl,rfl,rfl,rfl,rfl,rfl,rfl⟩:=hfil.shape
     have HFil:=hide hfil
     have hbx:=below1 w4 (.cells #[.int .i64 pk,.string pa,.string pv,.string pfs,.string pl,.slice pA pm pc,.slice pD pn pd] 33)
     have hpx:=Out7.new (u0:=.int .i64 pk) (u1:=.string pa) (u2:=.string pv) (u3:=.string pfs) (u4:=.string pl) (u5:=.slice pA pm pc) (u6:=.slice pD pn pd) w4 33
     have hRz4:=(HRzw2.out.below HRzw2.out.lt hfil.bel)
     have hRz5:=hRz4.below hRz4.lt hbx
     have hfil5:=hfil.grow hbx
     clear hpost hfil hRz4 HSi
     go_upto_region 11 with fail
     obtain⟨w5,hw5⟩:∃w5,w4.alloc (.cells #[.int .i64 pk,.string pa,.string pv,.string pfs,.string pl,.slice pA pm pc,.slice pD pn pd] 33)=w5:=⟨_,rfl⟩
     rw[hw5] at hpx hRz5 hfil5 ⊢
     have HRz5:=hide hRz5
     have HFil5:=hide hfil5
     clear hw5 hbx hRz5 hfil5
     obtain⟨_,p0,p1,p2,p3,p4,p5,p6,_⟩:=hpx
     go_wp2_with (refine store7 _ rfl (.tmp 2) (.tmp 49) rfl w.heap.size _ _ _ _ _ _ _ (.int .i64 pk) (.string pa) (.string pv) (.string pfs) (.string pl) (.slice pA pm pc) (.slice pD pn pd) rfl rfl HRz5.out HFil5.out.one ?_)
     intro wz hOz hgz
     have HOz:=hide hOz
     have Hgz:=hide hgz
     clear hOz hgz
     go_wp2
     refine bodyPost_ret (v:=.tuple #[.agg #[.int .i64 pk,.string pa,.string pv,.string pfs,.string pl,.slice pA pm pc,.slice pD pn pd],.string sr,.bool b]) ?_ rfl ?_
     ·exact results_cell3 rfl _ wz w.heap.size [.int .i64 pk,.string pa,.string pv,.string pfs,.string pl,.slice pA pm pc,.slice pD pn pd] _ _ _ rfl rfl rfl HOz.out.range Tryz.underlying33 rfl (by kernel_rfl)
     ·have hm:=HFil5.out.move HBw2.out Hgz.out (Nat.le_refl _) HRzw2.out.lt
      refine⟨⟨_,_,_,_,_,_,_,_,_,rfl,?_,fun t2 rest2 h=>?_⟩⟩
      ·rw [←HR.out]
       cases hsf:FT.simpleF t with
       | none=>rw[hsf] at hm;exact hm
       | some x=>rw[hsf] at hm;exact hm
      ·rw [←HR.out] at h
       cases hsf:FT.simpleF t with
       | none=>rw[hsf] at h;cases h
       | some x=>
        rw[hsf] at h
        simp only[Option.map_some,Option.some.injEq,Prod.mk.injEq] at h
        rw[←h.2];exact Hsr.out.symm
end Go.Proofs.YtaolhefllfnmiaaGreatDoor
namespace Go.Proofs.YtaolhefllfnmiaaGreatDoor
open Go.RowKit
set_option linter.unusedVariables false
namespace FT
def parseF (s:List UInt8):Option FT:=
 if 16384<s.length then none else match readF s.length s with
  | some (t,[])=>if t.formed then some t else none
  | _=>none
theorem parseF_long {s:List UInt8} (h:16384<s.length):parseF s=none:=by unfold parseF;rw[if_pos h]
theorem parseF_none {s:List UInt8} (h:readF s.length s=none):parseF s=none:=by unfold parseF;split;rfl;rw[h]
theorem parseF_rest {s:List UInt8} {t:FT} {c:UInt8} {r:List UInt8} (h:readF s.length s=some (t,c::r)):parseF s=none:=by unfold parseF;split;rfl;rw[h]
theorem parseF_whole {s:List UInt8} {t:FT} (hl:¬16384<s.length) (h:readF s.length s=some (t,[])):parseF s=if t.formed then some t else none:=by unfold parseF;rw[if_neg hl,h]
def parseC (s:List UInt8):Int:=if 16384<s.length then 4 else match parseF s with | some _=>0 | none=>2
theorem parse_text {t:FT} (h:t.formed=true) (hl:(text t).length≤16384):parseF (text t)=some t:=by
 have hall:t.all=true:=by
  unfold formed at h
  simp only[Bool.and_eq_true] at h
  exact h.2
 have:=read_back t hall (text t).length [] (Nat.le_refl _)
 rw[List.append_nil] at this
 rw[parseF_whole (by omega) this,if_pos h]
end FT
structure PaPost (s:List UInt8) (w:World) (e:Ending) (w':World):Prop where
 out:∃t v0 v1 v2 v3 v4 v5 v6,e=.returned (.tuple #[.agg #[v0,v1,v2,v3,v4,v5,v6],.int .i64 (FT.parseC s)])∧FInP w' (fun g=>w.heap.size≤g∧g<w'.heap.size) t [v0,v1,v2,v3,v4,v5,v6]∧Below w.heap.size w w'∧(∀t',FT.parseF s=some t'→t=t')
theorem jparse_any (s:List UInt8) (hs47:s.length≤281474976710656) (w:World) (hT:FM w):Calls Tryz.prog 18 #[.string (txt s)] w (PaPost s w):=by
 have hR0:=Out7.new (u0:=.int .i64 0) (u1:=.string ⟨#[]⟩) (u2:=.string ⟨#[]⟩) (u3:=.string ⟨#[]⟩) (u4:=.string ⟨#[]⟩) (u5:=.slice none 0 0) (u6:=.slice none 0 0) w 33
 have hb0:=below1 w (.cells #[.int .i64 0,.string ⟨#[]⟩,.string ⟨#[]⟩,.string ⟨#[]⟩,.string ⟨#[]⟩,.slice none 0 0,.slice none 0 0] 33)
 obtain⟨w1,hw1⟩:∃w1,w.alloc (.cells #[.int .i64 0,.string ⟨#[]⟩,.string ⟨#[]⟩,.string ⟨#[]⟩,.string ⟨#[]⟩,.slice none 0 0,.slice none 0 0] 33)=w1:=⟨_,rfl⟩
 rw[hw1] at hR0 hb0
 have HRzw1:=hide hR0
 have HBw1:=hide hb0
 have HTw1:=hide (hT.below hb0)
 have HW1:=hide hw1
 have hsz:=txt_size s
 by_cases hl:16384<s.length
 ·have Hpf:Hid (FT.parseF s=none):=hide (FT.parseF_long hl)
  have Hpc:Hid (FT.parseC s=4):=hide (by unfold FT.parseC;rw[if_pos hl])
  have z:(16384:Int)<((txt s).size:Int):=by omega
  generalize txt s=ss at *
  obtain⟨_,o0,o1,o2,o3,o4,o5,o6,ofz⟩:=hR0
  clear hsz hl hT hb0 hs47 hw1
  go_enter Tryz.func18,Tryz.ntmps18
  go_upto_region 1 with fail
  rw[HW1.out]
  go_wp2_with (refine store7 _ rfl (.tmp 2) (.tmp 10) rfl w.heap.size _ _ _ _ _ _ _ (.int .i64 0) (.string ⟨#[]⟩) (.string ⟨#[]⟩) (.string ⟨#[]⟩) (.string ⟨#[]⟩) (.slice none 0 0) (.slice none 0 0) rfl rfl HRzw1.out (by simp[Value.oneCell']) ?_)
  intro wz hOz hgz
  have HOz:=hide hOz
  have Hgz:=hide hgz
  clear hOz hgz o0 o1 o2 o3 o4 o5 o6 ofz
  go_wp2
  refine bodyPost_ret (v:=.tuple #[.agg #[.int .i64 0,.string ⟨#[]⟩,.string ⟨#[]⟩,.string ⟨#[]⟩,.string ⟨#[]⟩,.slice none 0 0,.slice none 0 0],.int .i64 4]) ?_ rfl ?_
  ·exact results_cell2 rfl _ wz w.heap.size [.int .i64 0,.string ⟨#[]⟩,.string ⟨#[]⟩,.string ⟨#[]⟩,.string ⟨#[]⟩,.slice none 0 0,.slice none 0 0] _ _ rfl rfl HOz.out.range Tryz.underlying33 rfl (by kernel_rfl)
  ·have hbz:=HBw1.out.trans (below_of_grown Hgz.out (fun k hk=>by cases hk;exact Nat.le_refl _) HBw1.out.size)
   exact⟨⟨_,_,_,_,_,_,_,_,by rw[Hpc.out],finp_zero _ _,hbz,fun t' h=>by rw[Hpf.out] at h;cases h⟩⟩
 have z:¬((16384:Int)<((txt s).size:Int)):=by omega
 have hrd:=fun w hT=>jread_any s.length s (Nat.le_refl _) (by omega) w hT
 have hC:∀o,FT.parseF s=o→FT.parseC s=match o with | some _=>0 | none=>2:=fun o h=>by unfold FT.parseC;rw[if_neg hl,h]
 obtain⟨ro,hro⟩:∃ro,FT.readF s.length s=ro:=⟨_,rfl⟩
 rw[hro] at hrd
 have HRd:=hide hrd
 have Hl:=hide hl
 clear hrd hsz hT hb0 hs47 hw1 hR0 hl
 match ro,hro,HRd with
 | none,hro,HRd=>
  have Hpf:Hid (FT.parseF s=none):=hide (FT.parseF_none hro)
  have Hpc:Hid (FT.parseC s=2):=hide (hC _ Hpf.out)
  clear hro hC Hl
  generalize txt s=ss at *
  go_enter Tryz.func18,Tryz.ntmps18
  go_upto_region 1 with fail
  rw[HW1.out]
  go_wp2_with (go_at_call 33;fail)
  refine (HRd.out _ HTw1.out).mono ?_
  rintro e w4 hpost
  obtain⟨v0,v1,v2,v3,v4,v5,v6,b,q2,rfl,hfil,hrest⟩:=hpost.out
  obtain⟨pk,pa,pv,pfs,pl,pA,pm,pc,pD,pn,pd,rfl,rfl,rfl,rfl,rfl,rfl,rfl⟩:=hfil.shape
  have hbx:=below1 w4 (.cells #[.int .i64 pk,.string pa,.string pv,.string pfs,.string pl,.slice pA pm pc,.slice pD pn pd] 33)
  have hpx:=Out7.new (u0:=.int .i64 pk) (u1:=.string pa) (u2:=.string pv) (u3:=.string pfs) (u4:=.string pl) (u5:=.slice pA pm pc) (u6:=.slice pD pn pd) w4 33
  have hRz4:=(HRzw1.out.below HRzw1.out.lt hfil.bel)
  have hRz5:=hRz4.below hRz4.lt hbx
  have hfil5:=hfil.grow hbx
  clear hpost hfil hRz4 HRd
  go_upto_region 4 with fail
  obtain⟨w5,hw5⟩:∃w5,w4.alloc (.cells #[.int .i64 pk,.string pa,.string pv,.string pfs,.string pl,.slice pA pm pc,.slice pD pn pd] 33)=w5:=⟨_,rfl⟩
  rw[hw5] at hpx hRz5 hfil5 ⊢
  have HRz5:=hide hRz5
  have HFil5:=hide hfil5
  have HB5:=hide (HBw1.out.trans (hfil5.bel.mono HBw1.out.size))
  have HPx:=hide hpx
  clear hw5 hbx hRz5 hfil5 hpx
  have hbf:b=false:=by
   obtain⟨t,_,ht⟩:=HFil5.out.fil
   cases b with
   | false=>rfl
   | true=>simp at ht
  subst hbf
  go_wp2_with (refine store7 _ rfl (.tmp 2) (.tmp 28) rfl w.heap.size _ _ _ _ _ _ _ (.int .i64 0) (.string ⟨#[]⟩) (.string ⟨#[]⟩) (.string ⟨#[]⟩) (.string ⟨#[]⟩) (.slice none 0 0) (.slice none 0 0) rfl rfl HRz5.out (by simp[Value.oneCell']) ?_)
  intro wz hOz hgz
  have HOz:=hide hOz
  have Hgz:=hide hgz
  clear hOz hgz
  go_wp2
  refine bodyPost_ret (v:=.tuple #[.agg #[.int .i64 0,.string ⟨#[]⟩,.string ⟨#[]⟩,.string ⟨#[]⟩,.string ⟨#[]⟩,.slice none 0 0,.slice none 0 0],.int .i64 2]) ?_ rfl ?_
  ·exact results_cell2 rfl _ wz w.heap.size [.int .i64 0,.string ⟨#[]⟩,.string ⟨#[]⟩,.string ⟨#[]⟩,.string ⟨#[]⟩,.slice none 0 0,.slice none 0 0] _ _ rfl rfl HOz.out.range Tryz.underlying33 rfl (by kernel_rfl)
  ·have hbz:=HB5.out.trans (below_of_grown Hgz.out (fun k hk=>by cases hk;exact Nat.le_refl _) HB5.out.size)
   exact⟨⟨_,_,_,_,_,_,_,_,by rw[Hpc.out],finp_zero _ _,hbz,fun t' h=>by rw[Hpf.out] at h;cases h⟩⟩
 | some (t,c::r),hro,HRd=>
  have Hpf:Hid (FT.parseF s=none):=hide (FT.parseF_rest hro)
  have Hpc:Hid (FT.parseC s=2):=hide (hC _ Hpf.out)
  clear hro hC Hl
  generalize txt s=ss at *
  go_enter Tryz.func18,Tryz.ntmps18
  go_upto_region 1 with fail
  rw[HW1.out]
  go_wp2_with (go_at_call 33;fail)
  refine (HRd.out _ HTw1.out).mono ?_
  rintro e w4 hpost
  obtain⟨v0,v1,v2,v3,v4,v5,v6,b,q2,rfl,hfil,hrest⟩:=hpost.out
  obtain⟨pk,pa,pv,pfs,pl,pA,pm,pc,pD,pn,pd,rfl,rfl,rfl,rfl,rfl,rfl,rfl⟩:=hfil.shape
  have hbx:=below1 w4 (.cells #[.int .i64 pk,.string pa,.string pv,.string pfs,.string pl,.slice pA pm pc,.slice pD pn pd] 33)
  have hpx:=Out7.new (u0:=.int .i64 pk) (u1:=.string pa) (u2:=.string pv) (u3:=.string pfs) (u4:=.string pl) (u5:=.slice pA pm pc) (u6:=.slice pD pn pd) w4 33
  have hRz4:=(HRzw1.out.below HRzw1.out.lt hfil.bel)
  have hRz5:=hRz4.below hRz4.lt hbx
  have hfil5:=hfil.grow hbx
  clear hpost hfil hRz4 HRd
  go_upto_region 4 with fail
  obtain⟨w5,hw5⟩:∃w5,w4.alloc (.cells #[.int .i64 pk,.string pa,.string pv,.string pfs,.string pl,.slice pA pm pc,.slice pD pn pd] 33)=w5:=⟨_,rfl⟩
  rw[hw5] at hpx hRz5 hfil5 ⊢
  have HRz5:=hide hRz5
  have HFil5:=hide hfil5
  have HB5:=hide (HBw1.out.trans (hfil5.bel.mono HBw1.out.size))
  have HPx:=hide hpx
  clear hw5 hbx hRz5 hfil5 hpx
  have hbf:b=true:=by
   obtain⟨t,_,ht⟩:=HFil5.out.fil
   cases b with
   | true=>rfl
   | false=>simp at ht
  subst hbf
  have hq2:=hrest t (c::r) rfl
  have hse:(q2.toList==[])=false:=by rw[hq2,txt_bytes];rfl
  have hse2:(q2.toList !=[])=true:=by unfold bne;rw[hse];rfl
  clear hq2 hrest
  go_wp2_with (refine store7 _ rfl (.tmp 2) (.tmp 28) rfl w.heap.size _ _ _ _ _ _ _ (.int .i64 0) (.string ⟨#[]⟩) (.string ⟨#[]⟩) (.string ⟨#[]⟩) (.string ⟨#[]⟩) (.slice none 0 0) (.slice none 0 0) rfl rfl HRz5.out (by simp[Value.oneCell']) ?_)
  intro wz hOz hgz
  have HOz:=hide hOz
  have Hgz:=hide hgz
  clear hOz hgz
  go_wp2
  refine bodyPost_ret (v:=.tuple #[.agg #[.int .i64 0,.string ⟨#[]⟩,.string ⟨#[]⟩,.string ⟨#[]⟩,.string ⟨#[]⟩,.slice none 0 0,.slice none 0 0],.int .i64 2]) ?_ rfl ?_
  ·exact results_cell2 rfl _ wz w.heap.size [.int .i64 0,.string ⟨#[]⟩,.string ⟨#[]⟩,.string ⟨#[]⟩,.string ⟨#[]⟩,.slice none 0 0,.slice none 0 0] _ _ rfl rfl HOz.out.range Tryz.underlying33 rfl (by kernel_rfl)
  ·have hbz:=HB5.out.trans (below_of_grown Hgz.out (fun k hk=>by cases hk;exact Nat.le_refl _) HB5.out.size)
   exact⟨⟨_,_,_,_,_,_,_,_,by rw[Hpc.out],finp_zero _ _,hbz,fun t' h=>by rw[Hpf.out] at h;cases h⟩⟩
 | some (t,[]),hro,HRd=>
  have hwh:=FT.parseF_whole Hl.out hro
  cases hfo:t.formed with
  | false=>
   rw[hfo,if_neg (by simp)] at hwh
   have Hpf:Hid (FT.parseF s=none):=hide hwh
   have Hpc:Hid (FT.parseC s=2):=hide (hC _ Hpf.out)
   have Hfo:=hide hfo
   clear hro hC Hl hwh hfo
   generalize txt s=ss at *
   go_enter Tryz.func18,Tryz.ntmps18
   go_upto_region 1 with fail
   rw[HW1.out]
   go_wp2_with (go_at_call 33;fail)
   refine (HRd.out _ HTw1.out).mono ?_
   rintro e w4 hpost
   obtain⟨v0,v1,v2,v3,v4,v5,v6,b,q2,rfl,hfil,hrest⟩:=hpost.out
   obtain⟨pk,pa,pv,pfs,pl,pA,pm,pc,pD,pn,pd,rfl,rfl,rfl,rfl,rfl,rfl,rfl⟩:=hfil.shape
   have hbx:=below1 w4 (.cells #[.int .i64 pk,.string pa,.string pv,.string pfs,.string pl,.slice pA pm pc,.slice pD pn pd] 33)
   have hpx:=Out7.new (u0:=.int .i64 pk) (u1:=.string pa) (u2:=.string pv) (u3:=.string pfs) (u4:=.string pl) (u5:=.slice pA pm pc) (u6:=.slice pD pn pd) w4 33
   have hRz4:=(HRzw1.out.below HRzw1.out.lt hfil.bel)
   have hRz5:=hRz4.below hRz4.lt hbx
   have hfil5:=hfil.grow hbx
   clear hpost hfil hRz4 HRd
   go_upto_region 4 with fail
   obtain⟨w5,hw5⟩:∃w5,w4.alloc (.cells #[.int .i64 pk,.string pa,.string pv,.string pfs,.string pl,.slice pA pm pc,.slice pD pn pd] 33)=w5:=⟨_,rfl⟩
   rw[hw5] at hpx hRz5 hfil5 ⊢
   have HRz5:=hide hRz5
   have HFil5:=hide hfil5
   have HB5:=hide (HBw1.out.trans (hfil5.bel.mono HBw1.out.size))
   have HPx:=hide hpx
   clear hw5 hbx hRz5 hfil5 hpx
   obtain⟨t5,ht5,hb5⟩:=HFil5.out.fil
   have hbt:b=true∧t5=t:=by
    cases b with
    | false=>simp at hb5
    | true=>simp at hb5;exact⟨rfl,hb5.symm⟩
   obtain⟨rfl,rfl⟩:=hbt
   have hq2:=hrest t5 [] rfl
   have hse:(q2.toList==[])=true:=by rw[hq2,txt_bytes];rfl
   have hse2:(q2.toList !=[])=false:=by unfold bne;rw[hse];rfl
   have hFo:=jFormed_any t5 w5 _ _ _ _ _ _ _ (ht5.fin (B:=w5.heap.size) (fun b hb=>hb.2))
   rw[Hfo.out] at hFo
   clear hq2 hrest ht5 hb5
   obtain⟨_,p0,p1,p2,p3,p4,p5,p6,_⟩:=HPx.out
   go_wp2_with (go_at_call 12;fail)
   refine hFo.mono ?_
   rintro e w6 ⟨rfl,hb6⟩
   have HRz6:=hide (HRz5.out.below HRz5.out.lt hb6)
   have HB6:=hide (HB5.out.trans (hb6.mono HB5.out.size))
   clear hFo hb6 p0 p1 p2 p3 p4 p5 p6
   go_wp2_with (refine store7 _ rfl (.tmp 2) (.tmp 28) rfl w.heap.size _ _ _ _ _ _ _ (.int .i64 0) (.string ⟨#[]⟩) (.string ⟨#[]⟩) (.string ⟨#[]⟩) (.string ⟨#[]⟩) (.slice none 0 0) (.slice none 0 0) rfl rfl HRz6.out (by simp[Value.oneCell']) ?_)
   intro wz hOz hgz
   have HOz:=hide hOz
   have Hgz:=hide hgz
   clear hOz hgz
   go_wp2
   refine bodyPost_ret (v:=.tuple #[.agg #[.int .i64 0,.string ⟨#[]⟩,.string ⟨#[]⟩,.string ⟨#[]⟩,.string ⟨#[]⟩,.slice none 0 0,.slice none 0 0],.int .i64 2]) ?_ rfl ?_
   ·exact results_cell2 rfl _ wz w.heap.size [.int .i64 0,.string ⟨#[]⟩,.string ⟨#[]⟩,.string ⟨#[]⟩,.string ⟨#[]⟩,.slice none 0 0,.slice none 0 0] _ _ rfl rfl HOz.out.range Tryz.underlying33 rfl (by kernel_rfl)
   ·have hbz:=HB6.out.trans (below_of_grown Hgz.out (fun k hk=>by cases hk;exact Nat.le_refl _) HB6.out.size)
    exact⟨⟨_,_,_,_,_,_,_,_,by rw[Hpc.out],finp_zero _ _,hbz,fun t' h=>by rw[Hpf.out] at h;cases h⟩⟩
  | true=>
   rw[hfo,if_pos rfl] at hwh
   have Hpf:Hid (FT.parseF s=some t):=hide hwh
   have Hpc:Hid (FT.parseC s=0):=hide (hC _ Hpf.out)
   have Hfo:=hide hfo
   clear hro hC Hl hwh hfo
   generalize txt s=ss at *
   go_enter Tryz.func18,Tryz.ntmps18
   go_upto_region 1 with fail
   rw[HW1.out]
   go_wp2_with (go_at_call 33;fail)
   refine (HRd.out _ HTw1.out).mono ?_
   rintro e w4 hpost
   obtain⟨v0,v1,v2,v3,v4,v5,v6,b,q2,rfl,hfil,hrest⟩:=hpost.out
   obtain⟨pk,pa,pv,pfs,pl,pA,pm,pc,pD,pn,pd,rfl,rfl,rfl,rfl,rfl,rfl,rfl⟩:=hfil.shape
   have hbx:=below1 w4 (.cells #[.int .i64 pk,.string pa,.string pv,.string pfs,.string pl,.slice pA pm pc,.slice pD pn pd] 33)
   have hpx:=Out7.new (u0:=.int .i64 pk) (u1:=.string pa) (u2:=.string pv) (u3:=.string pfs) (u4:=.string pl) (u5:=.slice pA pm pc) (u6:=.slice pD pn pd) w4 33
   have hRz4:=(HRzw1.out.below HRzw1.out.lt hfil.bel)
   have hRz5:=hRz4.below hRz4.lt hbx
   have hfil5:=hfil.grow hbx
   clear hpost hfil hRz4 HRd
   go_upto_region 4 with fail
   obtain⟨w5,hw5⟩:∃w5,w4.alloc (.cells #[.int .i64 pk,.string pa,.string pv,.string pfs,.string pl,.slice pA pm pc,.slice pD pn pd] 33)=w5:=⟨_,rfl⟩
   rw[hw5] at hpx hRz5 hfil5 ⊢
   have HRz5:=hide hRz5
   have HFil5:=hide hfil5
   have HB5:=hide (HBw1.out.trans (hfil5.bel.mono HBw1.out.size))
   have HPx:=hide hpx
   clear hw5 hbx hRz5 hfil5 hpx
   obtain⟨t5,ht5,hb5⟩:=HFil5.out.fil
   have hbt:b=true∧t5=t:=by
    cases b with
    | false=>simp at hb5
    | true=>simp at hb5;exact⟨rfl,hb5.symm⟩
   obtain⟨rfl,rfl⟩:=hbt
   have hq2:=hrest t5 [] rfl
   have hse:(q2.toList==[])=true:=by rw[hq2,txt_bytes];rfl
   have hse2:(q2.toList !=[])=false:=by unfold bne;rw[hse];rfl
   have hFo:=jFormed_any t5 w5 _ _ _ _ _ _ _ (ht5.fin (B:=w5.heap.size) (fun b hb=>hb.2))
   rw[Hfo.out] at hFo
   have Ht5:=hide ht5
   clear hq2 hrest ht5 hb5
   obtain⟨_,p0,p1,p2,p3,p4,p5,p6,_⟩:=HPx.out
   go_wp2_with (go_at_call 12;fail)
   refine hFo.mono ?_
   rintro e w6 ⟨rfl,hb6⟩
   have HRz6:=hide (HRz5.out.below HRz5.out.lt hb6)
   have HFil6:=hide (HFil5.out.grow hb6)
   have hpx6:=HPx.out.below HPx.out.lt hb6
   clear hFo hb6 p0 p1 p2 p3 p4 p5 p6
   obtain⟨_,p0,p1,p2,p3,p4,p5,p6,_⟩:=hpx6
   go_wp2_with (refine store7 _ rfl (.tmp 2) (.tmp 29) rfl w.heap.size _ _ _ _ _ _ _ (.int .i64 pk) (.string pa) (.string pv) (.string pfs) (.string pl) (.slice pA pm pc) (.slice pD pn pd) rfl rfl HRz6.out HFil6.out.one ?_)
   intro wz hOz hgz
   have HOz:=hide hOz
   have Hgz:=hide hgz
   clear hOz hgz p0 p1 p2 p3 p4 p5 p6
   go_wp2
   refine bodyPost_ret (v:=.tuple #[.agg #[.int .i64 pk,.string pa,.string pv,.string pfs,.string pl,.slice pA pm pc,.slice pD pn pd],.int .i64 0]) ?_ rfl ?_
   ·exact results_cell2 rfl _ wz w.heap.size [.int .i64 pk,.string pa,.string pv,.string pfs,.string pl,.slice pA pm pc,.slice pD pn pd] _ _ rfl rfl HOz.out.range Tryz.underlying33 rfl (by kernel_rfl)
   ·have hm:=HFil6.out.move HBw1.out Hgz.out (Nat.le_refl _) HRzw1.out.lt
    obtain⟨t6,ht6,hb6⟩:=hm.fil
    have he6:t6=t5:=by simp at hb6;exact hb6.symm
    subst he6
    exact⟨⟨t6,_,_,_,_,_,_,_,by rw[Hpc.out],ht6,hm.bel,fun t' h=>by rw[Hpf.out] at h;exact Option.some.inj h⟩⟩
end Go.Proofs.YtaolhefllfnmiaaGreatDoor
namespace Go.Proofs.YtaolhefllfnmiaaGreatDoor
open Go.RowKit
set_option linter.unusedVariables false
def awakeT:FT:=.mk 4 [99,110] [] [97] [] [] []
def awakeS:List UInt8:=[40,99,110,61,97,42,41]
theorem awake_text:FT.text awakeT=awakeS:=by rfl
theorem awake_formed:awakeT.formed=true:=by rfl
theorem awake_parse:FT.parseF awakeS=some awakeT:=by
 have:=FT.parse_text awake_formed (by rw[awake_text];decide)
 rwa [awake_text] at this
theorem awake_code:FT.parseC awakeS=0:=by
 unfold FT.parseC
 rw[if_neg (by decide),awake_parse]
def awakeL:List At2:=[([99,110],[[65,110,110]])]
theorem awake_norm:norm [99,110] [65,110,110]=([97,110,110],0):=by
 have ht:(typ [99,110]).2=1:=by decide
 unfold norm
 rw[ht,if_neg (by decide),if_neg (by decide),if_neg ?_,if_pos rfl]
 ·congr 1
 ·rintro (h | h | h)
  ·exact absurd h (by decide)
  ·exact absurd h (by decide)
  ·exact h ⟨fun _=>⟨by decide,by decide⟩,fun h=>absurd h (by decide),fun h=>absurd h (by decide)⟩
theorem awake_eval:awakeT.evalV awakeL=1:=by
 unfold FT.evalV
 rw[awake_formed,if_pos rfl]
 have h1:awakeT.evalT awakeL=oneV awakeL 4 [99,110] [] [97] [] []:=by
  unfold awakeT
  rw[FT.evalT]
  unfold combV
  rw[if_neg (by decide),if_neg (by decide)]
 rw[h1]
 unfold oneV
 have ht:(typ [99,110]).2=1:=by decide
 have hv:valsV awakeL [99,110]=[[65,110,110]]:=by
  unfold valsV awakeL
  simp
 rw[ht,hv,if_neg (by decide),if_neg (by decide),if_pos rfl,if_neg (by decide)]
 have hp:pieceV [99,110] [97] [] [] 1 [65,110,110]=true:=by
  unfold pieceV
  rw[awake_norm]
  rfl
 simp[hp]
theorem awake_ok:AsOk awakeL:=by
 refine⟨fun a ha=>?_,fun a ha x hx=>?_,by decide⟩
 ·simp only[awakeL,List.mem_singleton] at ha;subst ha;decide
 ·simp only[awakeL,List.mem_singleton] at ha;subst ha;simp only[List.mem_singleton] at hx;subst hx;decide
theorem jawake_any (w:World) (hT:FM w):Calls Tryz.prog 7 #[] w fun e w'=>e=.returned (.bool true)∧Below w.heap.size w w':=by
 have hpa:=jparse_any awakeS (by decide) w hT
 have hlit:txt awakeS=⟨#[40,99,110,61,97,42,41]⟩:=rfl
 rw[hlit] at hpa
 have HT:=hide hT
 clear hlit hT
 go_enter Tryz.func7,Tryz.ntmps7
 go_wp2_with (go_at_call 18;fail)
 refine hpa.mono ?_
 rintro e w1 hpost
 obtain⟨t,v0,v1,v2,v3,v4,v5,v6,rfl,hfin,hb1,ht⟩:=hpost.out
 obtain rfl:=ht _ awake_parse
 have hf:=hfin.fin (B:=w1.heap.size) (fun b hb=>hb.2)
 have hf2:=hf
 unfold awakeT at hf2
 simp only[FIn] at hf2
 obtain⟨A,c,D,dd,ys,hcs,_⟩:=hf2
 simp only[List.cons.injEq,and_true] at hcs
 obtain⟨rfl,rfl,rfl,rfl,rfl,rfl,rfl⟩:=hcs
 have hbx:=below1 w1 (.cells #[.int .i64 4,.string (txt [99,110]),.string (txt []),.string (txt [97]),.string (txt []),.slice A 0 c,.slice D 0 dd] 33)
 have hpx:=Box7.new w1 4 (txt [99,110]) (txt []) (txt [97]) (txt []) A 0 c D 0 dd 33
 have hf3:=hf.grow hbx
 rw[awake_code]
 clear hpost hfin ht hf hpa
 go_upto_region 2 with fail
 obtain⟨w2,hw2⟩:∃w2,w1.alloc (.cells #[.int .i64 4,.string (txt [99,110]),.string (txt []),.string (txt [97]),.string (txt []),.slice A 0 c,.slice D 0 dd] 33)=w2:=⟨_,rfl⟩
 simp only[List.length_nil] at hf3 ⊢
 rw[hw2] at hbx hpx hf3 ⊢
 have hB2:=hb1.trans (hbx.mono hb1.size)
 have HT2:=hide (HT.out.below hB2)
 have HX:=hide hpx
 have HB2:=hide hB2
 have h3:=own_lit w2 #[.string ⟨#[65,110,110]⟩] 9 1 (by unfold maxLen;omega) rfl
 have hb3:=below1 w2 (.cells #[.string ⟨#[65,110,110]⟩] 9)
 obtain⟨w3,hw3⟩:∃w3,w2.alloc (.cells #[.string ⟨#[65,110,110]⟩] 9)=w3:=⟨_,rfl⟩
 rw[hw3] at h3 hb3
 obtain⟨b3,hb3n⟩:∃b3,w2.heap.size=b3:=⟨_,rfl⟩
 rw[hb3n] at h3
 have h4:=World.ownsRow_lit (e:=51) (size:=2) w3 #[.string ⟨#[99,110]⟩,.slice (some ⟨b3,0,none⟩) 1 1] 1 (Nat.le_refl _) (by unfold maxLen;omega) rfl
 have hs3:w3.heap.size=b3+1:=by rw[←hw3,←hb3n];simp
 rw[hs3] at h4
 have hb4:=below1 w3 (.cells #[.string ⟨#[99,110]⟩,.slice (some ⟨b3,0,none⟩) 1 1] 51)
 obtain⟨w4,hw4⟩:∃w4,w3.alloc (.cells #[.string ⟨#[99,110]⟩,.slice (some ⟨b3,0,none⟩) 1 1] 51)=w4:=⟨_,rfl⟩
 rw[hw4] at h4 hb4
 have hH4:=Has.own h4
 have hH3:Has w4 w4.heap.size 1 (some ⟨b3,0,none⟩) 1 (strs [[65,110,110]]):=((Has.own h3).below hb4).upto hb4.size
 have hAs:AsIn w4 w4.heap.size [.string ⟨#[99,110]⟩,.slice (some ⟨b3,0,none⟩) 1 1] awakeL:=by
  refine⟨rfl,fun i a ha=>?_⟩
  match i,ha with
  | 0,ha=>
   simp only[awakeL,List.getElem?_cons_zero,Option.some.injEq] at ha
   subst ha
   exact⟨some ⟨b3,0,none⟩,1,rfl,rfl,hH3⟩
  | i+1,ha=>simp[awakeL] at ha
 have hB4:=hb3.trans (hb4.mono hb3.size)
 have hev:=jEval_any awakeL awake_ok 1 (by omega) awakeT w4 _ 1 _ _ _ _ _ _ _ _ hH4 hAs (hf3.grow hB4) (HT2.out.below hB4).tm
 rw[awake_eval] at hev
 have HEv:=hide hev
 have HW3:=hide hw3
 have HW4:=hide hw4
 have Hb3n:=hide hb3n
 have HB4:=hide (HB2.out.trans (hB4.mono HB2.out.size))
 have e1:(txt [97]).toList=[97]:=txt_bytes _
 obtain⟨s97,hs97⟩:∃s,txt [97]=s:=⟨_,rfl⟩
 rw[hs97] at e1 HEv hpx ⊢
 clear hev hH4 hH3 hAs hB4 h3 h4 hb3 hb4 hw3 hw4 hb3n hs3 hbx hb1 hB2 HT HT2 hf3 HX hw2 hs97 HB2
 obtain⟨_,c0,c1,c2,c3,c4,c5,c6⟩:=hpx
 go_wp2_with (go_at_call 21;fail)
 rw[HW3.out,Hb3n.out,HW4.out]
 refine HEv.out.mono ?_
 rintro e w5 ⟨rfl,hb5⟩
 have hb6:=HB4.out.trans (hb5.mono HB4.out.size)
 clear HEv hb5 c0 c1 c2 c3 c4 c5 c6
 go_wp2
 go_ret
 exact⟨rfl,hb6⟩
end Go.Proofs.YtaolhefllfnmiaaGreatDoor
