/- Several texts in one: VMath, VBox, VType, VForm, VBlk, VAsk, VIs, VDecide. By an AI agent. -/
import Derived.Test.YtjjepcnijmlliaaGreatDoorEX
import Derived.Test.YtjjepcnijmlliaaGreatDoorGrow
import Derived.Deep.MidRow
import Derived.Deep.CutRange
import Derived.Deep.CutBlock
import Derived.BigQuiet
import Derived.Deep.DeepMust
set_option maxRecDepth 100000
set_option maxHeartbeats 64000000
namespace Go.Proofs.YtjjepcnijmlliaaGreatDoor
open Go.RowKit
set_option linter.unusedVariables false
set_option linter.unusedSimpArgs false
structure Ru where
 who:List UInt8
 tgt:List UInt8
 att:List UInt8
 rts:Int
 alw:Bool
def ruC (r:Ru):List Value:=[.string (txt r.who),.string (txt r.tgt),.string (txt r.att),.int .i64 r.rts,.bool r.alw]
def rusC (L:List Ru):List Value:=L.flatMap ruC
theorem rusC_len:∀L:List Ru,(rusC L).length=L.length*5
 | []=>rfl
 | r::L=>by
  have:=rusC_len L
  unfold rusC at this ⊢
  rw[List.flatMap_cons,List.length_append,this,List.length_cons]
  simp[ruC];omega
theorem rusC_app (L M:List Ru):rusC (L++M)=rusC L++rusC M:=by simp[rusC]
theorem rusC_at:∀(L:List Ru) (i:Nat) (r:Ru),L[i]?=some r→∀k,k<5→(rusC L)[i*5+k]?=(ruC r)[k]?
 | [],i,r,h,k,hk=>by simp at h
 | q::L,0,r,h,k,hk=>by
  obtain rfl:q=r:=by simpa using h
  unfold rusC
  rw[List.flatMap_cons,List.getElem?_append_left (by simp[ruC];omega)]
  congr 1;omega
 | q::L,i+1,r,h,k,hk=>by
  have:=rusC_at L i r (by simpa using h) k hk
  unfold rusC at this ⊢
  rw[List.flatMap_cons,List.getElem?_append_right (by simp[ruC];omega),←this]
  congr 1
  simp[ruC];omega
theorem rusC_one (L:List Ru):∀u∈rusC L,u.oneCell'=true:=by
 intro u hu
 obtain⟨r,_,hr⟩:=List.mem_flatMap.1 hu
 simp only[ruC,List.mem_cons,List.not_mem_nil,or_false] at hr
 rcases hr with rfl | rfl | rfl | rfl | rfl<;>rfl
structure RuAt (w:World) (g o:Nat) (r:Ru):Prop where
 c0:w.cell? ⟨g,o,none⟩=some (.string (txt r.who))
 c1:w.cell? ⟨g,o+1,none⟩=some (.string (txt r.tgt))
 c2:w.cell? ⟨g,o+2,none⟩=some (.string (txt r.att))
 c3:w.cell? ⟨g,o+3,none⟩=some (.int .i64 r.rts)
 c4:w.cell? ⟨g,o+4,none⟩=some (.bool r.alw)
theorem RuAt.below {w w':World} {B g o:Nat} {r:Ru} (h:RuAt w g o r) (hg:g<B) (hb:Below B w w'):RuAt w' g o r:=
 ⟨(hb.cell hg).trans h.c0,(hb.cell hg).trans h.c1,(hb.cell hg).trans h.c2,(hb.cell hg).trans h.c3,(hb.cell hg).trans h.c4⟩
theorem Has.rule {w:World} {B n:Nat} {A:Option Addr} {L:List Ru} (h:Has w B 5 A n (rusC L)) (hL:L≠[]):
  ∃g o,A=some ⟨g,o,none⟩∧g<B∧∀(i:Nat) (r:Ru),L[i]?=some r→RuAt w g (o+i*5) r:=by
 have hp:=List.length_pos_iff.2 hL
 obtain⟨g,o,rfl,hg,hc⟩:=h.lies (by rw[rusC_len];omega)
 refine⟨g,o,rfl,hg,fun i r hr=>?_⟩
 have hk:=fun k hk=>rusC_at L i r hr k hk
 have h0:=hc _ _ ((hk 0 (by omega)).trans rfl)
 have h1:=hc _ _ ((hk 1 (by omega)).trans rfl)
 have h2:=hc _ _ ((hk 2 (by omega)).trans rfl)
 have h3:=hc _ _ ((hk 3 (by omega)).trans rfl)
 have h4:=hc _ _ ((hk 4 (by omega)).trans rfl)
 rw[←Nat.add_assoc] at h0 h1 h2 h3 h4
 exact⟨h0,h1,h2,h3,h4⟩
theorem Has.rules_n {w:World} {B n:Nat} {A:Option Addr} {L:List Ru} (h:Has w B 5 A n (rusC L)):n=L.length:=by
 have:=h.1
 rw[rusC_len] at this
 omega
def andI (x y:Int):Int:=IntKind.i64.wrap ((BitVec.ofInt IntKind.i64.bits x&&& BitVec.ofInt IntKind.i64.bits y).toNat:Int)
def tnV (a:List UInt8):List UInt8 × Bool:=((typ a).1,decide (a=[]∨(typ a).1≠[]))
def NormP (t:List UInt8):Prop:=normT t=(t,0)
def WhoP (s:List UInt8):Prop:=s=[42]∨s=[45]∨s=[61]∨∃l,s=64::l∧NormP l
structure FormedP (r:Ru):Prop where
 att:(tnV r.att).2=true∧(tnV r.att).1=r.att
 lo:1≤r.rts
 hi:r.rts≤63
 who:WhoP r.who
 tgt:NormP r.tgt
def AllP (L:List Ru):Prop:=L.length≤40∧∀r∈L,FormedP r
structure Qn where
 s:List UInt8
 n:List UInt8
 t:List UInt8
 right:Int
def trimAt (s:List UInt8):List UInt8:=Lib.trimPrefix s [64]
theorem trim_at (l:List UInt8):Lib.trimPrefix (64::l) [64]=l:=by simp[Lib.trimPrefix,Lib.hasPrefix,List.isPrefixOf]
theorem pre_at (l:List UInt8):Lib.hasPrefix (64::l) [64]=true:=by simp[Lib.hasPrefix,List.isPrefixOf]
theorem pre_no {s:List UInt8} (h:∀l,s≠64::l):Lib.hasPrefix s [64]=false:=by
 cases s with
 | nil=>rfl
 | cons x r=>
  have:x≠64:=fun e=>h r (by rw[e])
  simp[Lib.hasPrefix,List.isPrefixOf,Ne.symm this]
theorem trim_no {s:List UInt8} (h:∀l,s≠64::l):Lib.trimPrefix s [64]=s:=by simp[Lib.trimPrefix,pre_no h]
theorem trim_len (s:List UInt8):(Lib.trimPrefix s [64]).length≤s.length:=by
 unfold Lib.trimPrefix
 split
 ·simp
 ·exact Nat.le_refl _
open Classical in
noncomputable def isV (who s n:List UInt8):Bool:=
 if who=[42] then true else if who=[45] then decide (s=[]) else if who=[61] then decide (s≠[]∧s=n) else (decide (s≠[])&&underV s (trimAt who))
open Classical in
noncomputable def aboutV (r:Ru) (q:Qn):Bool:=
 decide (andI r.rts q.right≠0∧(r.att=[]∨r.att=q.t))&&isV r.who q.s q.n&&underV q.n r.tgt
noncomputable def firstV:List Ru→Qn→Bool
 | [],_=>false
 | r::L,q=>if aboutV r q=true then r.alw else firstV L q
def RightP (x:Int):Prop:=x=1∨x=2∨x=4∨x=8∨x=16∨x=32
def AskP (s:List UInt8) (right:Int) (n a:List UInt8):Prop:=RightP right∧(normT s).2=0∧(normT n).2=0∧(tnV a).2=true
noncomputable def askV (s:List UInt8) (right:Int) (n a:List UInt8):Qn:=⟨(normT s).1,(normT n).1,(tnV a).1,right⟩
open Classical in
noncomputable def decideV (L:List Ru) (s:List UInt8) (right:Int) (n a:List UInt8):Bool:=
 if AskP s right n a∧AllP L then firstV L (askV s right n a) else false
theorem decide_no {L:List Ru} {s n a:List UInt8} {right:Int} (h:¬(AskP s right n a∧AllP L)):decideV L s right n a=false:=by
 unfold decideV;rw[if_neg h]
theorem decide_yes {L:List Ru} {s n a:List UInt8} {right:Int} (h:AskP s right n a) (h2:AllP L):decideV L s right n a=firstV L (askV s right n a):=by
 unfold decideV;rw[if_pos ⟨h,h2⟩]
theorem norm_nil:normT []=([],0):=by
 have:partsV []=(some [],0):=parts_join TextsOk.root
 rw[norm_yes' this]
 rfl
theorem name_dcx:nameV [100,99,61,120]=(some [[([100,99],[120])]],0):=by
 have hc:cuts 44 [100,99,61,120]=[[100,99,61,120]]:=by decide
 have p2:parseP [100,99,61,120]=some [([100,99],[120])]:=by
  have h1:(cuts 43 [100,99,61,120]).length≤3:=by decide
  have h2:(cuts 43 [100,99,61,120]).mapM rdPairT=some [([100,99],[120])]:=by decide
  have h3:sortP [([100,99],[120])]=[([100,99],[120])]:=by decide
  rw[parse_some h1 h2,h3,if_pos]
  refine⟨by decide,by decide,fun a ha=>?_,by decide⟩
  obtain rfl:=List.mem_singleton.1 ha
  exact⟨by decide,Or.inl (by decide),by rw[norm_word _ _ (by decide) (by decide) (by decide) (by decide)]⟩
 unfold nameV
 rw[if_neg (by decide),if_neg (by decide),hc,if_neg (by decide),mapM_cons',p2]
 rfl
theorem parts_dcx:partsV [100,99,61,120]=(some [[100,99,61,120]],0):=by
 have t2:ptx [([100,99],[120])]=[100,99,61,120]:=by
  unfold ptx normP
  simp only[List.map_cons,List.map_nil]
  rw[norm_word _ _ (by decide) (by decide) (by decide) (by decide)]
  decide
 unfold partsV
 rw[name_dcx]
 simp only[List.map_cons,List.map_nil,t2]
 rw[if_neg (by decide)]
end Go.Proofs.YtjjepcnijmlliaaGreatDoor
namespace Go.Proofs.YtjjepcnijmlliaaGreatDoor
open Go.RowKit
set_option linter.unusedVariables false
structure Box5 (w:World) (q:Nat) (a b c:ByteArray) (d:Int) (e:Bool):Prop where
 lt:q<w.heap.size
 c0:w.cell? ⟨q,0,none⟩=some (.string a)
 c1:w.cell? ⟨q,1,none⟩=some (.string b)
 c2:w.cell? ⟨q,2,none⟩=some (.string c)
 c3:w.cell? ⟨q,3,none⟩=some (.int .i64 d)
 c4:w.cell? ⟨q,4,none⟩=some (.bool e)
theorem Box5.new (w:World) (a b c:ByteArray) (d:Int) (e:Bool) (t:TypeId):Box5 (w.alloc (.cells #[.string a,.string b,.string c,.int .i64 d,.bool e] t)) w.heap.size a b c d e:=by
 refine⟨by simp,?_,?_,?_,?_,?_⟩<;>(rw[World.cell?_alloc_at (hn:=by simp)];rfl)
theorem Box5.below {w w':World} {q E:Nat} {a b c:ByteArray} {d:Int} {e:Bool} (h:Box5 w q a b c d e) (hE:q<E) (hb:Below E w w'):Box5 w' q a b c d e:=
 ⟨Nat.lt_of_lt_of_le h.lt hb.size,(hb.cell (p:=⟨q,0,none⟩) hE).trans h.c0,(hb.cell (p:=⟨q,1,none⟩) hE).trans h.c1,(hb.cell (p:=⟨q,2,none⟩) hE).trans h.c2,(hb.cell (p:=⟨q,3,none⟩) hE).trans h.c3,
  (hb.cell (p:=⟨q,4,none⟩) hE).trans h.c4⟩
theorem Box5.grow {w w':World} {q:Nat} {a b c:ByteArray} {d:Int} {e:Bool} (h:Box5 w q a b c d e) (hb:Below w.heap.size w w'):Box5 w' q a b c d e:=h.below h.lt hb
structure Box4 (w:World) (q:Nat) (a b c:ByteArray) (d:Int):Prop where
 lt:q<w.heap.size
 c0:w.cell? ⟨q,0,none⟩=some (.string a)
 c1:w.cell? ⟨q,1,none⟩=some (.string b)
 c2:w.cell? ⟨q,2,none⟩=some (.string c)
 c3:w.cell? ⟨q,3,none⟩=some (.int .i64 d)
theorem Box4.new (w:World) (a b c:ByteArray) (d:Int) (t:TypeId):Box4 (w.alloc (.cells #[.string a,.string b,.string c,.int .i64 d] t)) w.heap.size a b c d:=by
 refine⟨by simp,?_,?_,?_,?_⟩<;>(rw[World.cell?_alloc_at (hn:=by simp)];rfl)
theorem Box4.below {w w':World} {q E:Nat} {a b c:ByteArray} {d:Int} (h:Box4 w q a b c d) (hE:q<E) (hb:Below E w w'):Box4 w' q a b c d:=
 ⟨Nat.lt_of_lt_of_le h.lt hb.size,(hb.cell (p:=⟨q,0,none⟩) hE).trans h.c0,(hb.cell (p:=⟨q,1,none⟩) hE).trans h.c1,(hb.cell (p:=⟨q,2,none⟩) hE).trans h.c2,(hb.cell (p:=⟨q,3,none⟩) hE).trans h.c3⟩
theorem Box4.grow {w w':World} {q:Nat} {a b c:ByteArray} {d:Int} (h:Box4 w q a b c d) (hb:Below w.heap.size w w'):Box4 w' q a b c d:=h.below h.lt hb
theorem infoR:(Tryz.prog.info? 58).map (fun i=>(i.zero,i.size,i.bytes))=some (some (.agg #[.string .empty,.string .empty,.string .empty,.int .i64 0,.bool false]),5,64):=by kernel_rfl
theorem appRu {ops:Array Oper} {rest:List Oper} {o:Oper} {a:Act} {Q:Exit→Act→World→Prop} (W:World) (t e:TypeId) (z:Value) (size bytes:Nat) (hu:Tryz.prog.underlying t=some (.slice e))
  (hinf:(Tryz.prog.info? e).map (fun i=>(i.zero,i.size,i.bytes))=some (some z,size,bytes)) (hzs:z.cells.size=size) (hsz:0<size) (h64:bytes≤64)
  (hgd:o.guard=none) (s x:Operand)
  (ho:o.op=.call { callee:=.builtin .append,args:=#[s,x],argTypes:=#[t,t] })
  (base:Nat) (v:Value) (n:Nat) (xs:List Value) (hs:a.eval s=v) (hown:W.ownsRow base e size v n xs)
  (B:Nat) (A:Option Addr) (m c:Nat) (l:List Value) (hx:a.eval x=.slice A m c) (hr:Has W B size A m l) (h1:∀u∈l,u.oneCell'=true)
  (hb:n+m≤1000000) (hbase:base≤W.heap.size)
  (h:∀v' w',w'.ownsRow base e size v' (n+m) (xs++l)→Below base W w'→W.grownBy w' v.ownBlock→wpList Tryz.prog ops Q rest (a.put o.dst v') w'):
  wpList Tryz.prog ops Q (o::rest) a W:=by
 obtain⟨i0,hi,hz0,hz1,hz2⟩:=info_parts hinf
 have hbb:(n+m)*bytes≤140737488355328:=Nat.le_trans (Nat.mul_le_mul hb h64) (by omega)
 refine wpList_app W hgd s x t ho base e i0 z size bytes hu hi hz0 hz1 hz2 hzs hsz v n xs hs hown B A m c l hx hr h1 (by unfold maxLen;omega) hbb hbase ?_
 intro v' w' h1 h2 h3
 exact h v' w' h1 (below_grown hown h2 hbase) h2
theorem litR (w:World) (r:Ru) (e:TypeId):(w.alloc (.cells #[.string (txt r.who),.string (txt r.tgt),.string (txt r.att),.int .i64 r.rts,.bool r.alw] e)).ownsRow w.heap.size e 5 (.slice (some ⟨w.heap.size,0,none⟩) 1 1) 1 (ruC r):=
 World.ownsRow_lit w #[.string (txt r.who),.string (txt r.tgt),.string (txt r.att),.int .i64 r.rts,.bool r.alw] 1 (Nat.le_refl _) (by unfold maxLen;omega) rfl
theorem ruC_one (r:Ru):∀u∈ruC r,u.oneCell'=true:=by
 intro u hu
 exact rusC_one [r] u (by simpa[rusC] using hu)
end Go.Proofs.YtjjepcnijmlliaaGreatDoor
namespace Go.Proofs.YtjjepcnijmlliaaGreatDoor
open Go.RowKit
set_option linter.unusedVariables false
theorem tn_nil:tnV []=([],true):=by decide
theorem tn_yes {a:List UInt8} (h:(typ a).1≠[]):tnV a=((typ a).1,true):=Prod.ext rfl (decide_eq_true (Or.inr h))
theorem tn_no {a:List UInt8} (h0:a≠[]) (h:(typ a).1=[]):tnV a=([],false):=Prod.ext h (decide_eq_false fun hh=>hh.elim h0 fun k=>k h)
theorem tname_any (a:List UInt8) (w:World) (hT:TM w):
  Calls Tryz.prog 61 #[.string (txt a)] w fun e w'=>e=.returned (.tuple #[.string (txt (tnV a).1),.bool (tnV a).2])∧Below w.heap.size w w':=by
 by_cases h0:a=[]
 ·subst h0
  rw[tn_nil]
  have q0:((txt []).toList==[])=true:=by rw[toeq];rfl
  have e0:txt []=(⟨#[]⟩:ByteArray):=rfl
  clear hT
  rw[e0] at q0 ⊢
  go_enter Tryz.func61,Tryz.ntmps61
  go_wp2
  go_ret2
  exact⟨rfl,Below.refl _ _⟩
 ·have q0:((txt a).toList==[])=false:=by rw[toeq];simpa using h0
  have hTy:=type_any (txt a) w hT.tt.types
  rw[txt_toList] at hTy
  by_cases h1:(typ a).1=[]
  ·rw [tn_no h0 h1]
   rw[h1] at hTy
   have q1:((txt []).toList==[])=true:=by rw[toeq];rfl
   have q2:((txt []).toList !=[])=false:=by rw[txt_bytes];rfl
   generalize (typ a).2=y at *
   generalize txt a=s at *
   generalize txt []=s0 at *
   clear h0 h1 hT
   go_enter Tryz.func61,Tryz.ntmps61
   go_wp2_with (go_at_call 75;fail)
   refine hTy.mono ?_
   rintro e w1 ⟨rfl,hb⟩
   clear hTy
   go_wp2
   go_ret2
   exact⟨rfl,hb⟩
  ·rw [tn_yes h1]
   have q1:((txt (typ a).1).toList==[])=false:=by rw[toeq];simpa using h1
   have q2:((txt (typ a).1).toList !=[])=true:=by rw[txt_bytes];simpa using h1
   generalize (typ a).2=y at *
   generalize txt a=s at *
   generalize txt (typ a).1=s0 at *
   clear h0 h1 hT
   go_enter Tryz.func61,Tryz.ntmps61
   go_wp2_with (go_at_call 75;fail)
   refine hTy.mono ?_
   rintro e w1 ⟨rfl,hb⟩
   clear hTy
   go_wp2
   go_ret2
   exact⟨rfl,hb⟩
theorem isnormal_any (l:List UInt8) (hl:l.length≤1000000) (w:World) (hT:TM w):
  Calls Tryz.prog 83 #[.string (txt l)] w fun e w'=>e=.returned (.bool (Tr (NormP l)))∧Below w.heap.size w w':=by
 have hN:=pnormal_text l hl w hT
 by_cases h0:(normT l).2=0
 ·by_cases h1:(normT l).1=l
  ·rw [Tr_yes (show NormP l from Prod.ext h1 h0)]
   rw[h0,h1] at hN
   have q1:((txt l).toList==(txt l).toList)=true:=by simp
   generalize txt l=s at *
   clear h0 h1 hT hl
   go_enter Tryz.func83,Tryz.ntmps83
   go_wp2_with (go_at_call 60;fail)
   refine hN.mono ?_
   rintro e w1 ⟨rfl,hb⟩
   clear hN
   go_wp2
   go_ret
   exact⟨rfl,hb⟩
  ·rw [Tr_no (show ¬NormP l from fun h=>h1 (by rw[show normT l=(l,0) from h]))]
   rw[h0] at hN
   have q1:=str_ne h1
   generalize txt l=s at *
   generalize txt (normT l).1=s1 at *
   clear h0 h1 hT hl
   go_enter Tryz.func83,Tryz.ntmps83
   go_wp2_with (go_at_call 60;fail)
   refine hN.mono ?_
   rintro e w1 ⟨rfl,hb⟩
   clear hN
   go_wp2
   go_ret
   exact⟨rfl,hb⟩
 ·rw [Tr_no (show ¬NormP l from fun h=>h0 (by rw[show normT l=(l,0) from h]))]
  have q0:((normT l).2==0)=false:=beq_false_of_ne h0
  generalize txt l=s at *
  generalize txt (normT l).1=s1 at *
  generalize (normT l).2=y at *
  clear h0 hT hl
  go_enter Tryz.func83,Tryz.ntmps83
  go_wp2_with (go_at_call 60;fail)
  refine hN.mono ?_
  rintro e w1 ⟨rfl,hb⟩
  clear hN
  go_wp2
  go_ret
  exact⟨rfl,hb⟩
theorem isright_any (x:Int) (w:World):
  Calls Tryz.prog 59 #[.int .i64 x] w fun e w'=>e=.returned (.bool (Tr (RightP x)))∧w'=w:=by
 by_cases h:RightP x
 ·rw [Tr_yes h]
  rcases h with rfl | rfl | rfl | rfl | rfl | rfl
  all_goals
   go_enter Tryz.func59,Tryz.ntmps59
   go_wp2
   go_ret
   exact⟨rfl,rfl⟩
 ·rw [Tr_no h]
  have q1:(x==1)=false:=beq_false_of_ne fun e=>h (by unfold RightP;omega)
  have q2:(x==2)=false:=beq_false_of_ne fun e=>h (by unfold RightP;omega)
  have q3:(x==4)=false:=beq_false_of_ne fun e=>h (by unfold RightP;omega)
  have q4:(x==8)=false:=beq_false_of_ne fun e=>h (by unfold RightP;omega)
  have q5:(x==16)=false:=beq_false_of_ne fun e=>h (by unfold RightP;omega)
  have q6:(x==32)=false:=beq_false_of_ne fun e=>h (by unfold RightP;omega)
  clear h
  go_enter Tryz.func59,Tryz.ntmps59
  go_wp2
  go_ret
  exact⟨rfl,rfl⟩
inductive WhoWay (s:List UInt8):Prop where
 | any (h:s=[42])
 | none (h:s=[45])
 | self (h:s=[61])
 | name (l:List UInt8) (h:s=64::l)
 | bad (h1:s≠[42]) (h2:s≠[45]) (h3:s≠[61]) (h:∀l,s≠64::l)
theorem whoWay (s:List UInt8):WhoWay s:=by
 by_cases h1:s=[42]
 ·exact .any h1
 by_cases h2:s=[45]
 ·exact .none h2
 by_cases h3:s=[61]
 ·exact .self h3
 by_cases h4:∃l,s=64::l
 ·obtain ⟨l,h⟩:=h4
  exact .name l h
 ·exact .bad h1 h2 h3 fun l e=>h4 ⟨l,e⟩
theorem who_name {l:List UInt8}:WhoP (64::l)↔NormP l:=by
 constructor
 ·rintro (h | h | h | ⟨m,h,hm⟩)
  ·simp at h
  ·simp at h
  ·simp at h
  ·injection h with _ h
   subst h
   exact hm
 ·intro h
  exact Or.inr (Or.inr (Or.inr ⟨l,rfl,h⟩))
theorem who_bad {s:List UInt8} (h1:s≠[42]) (h2:s≠[45]) (h3:s≠[61]) (h:∀l,s≠64::l):¬WhoP s:=by
 rintro (e | e | e | ⟨l,e,_⟩)
 ·exact h1 e
 ·exact h2 e
 ·exact h3 e
 ·exact h l e
theorem iswho_any (s:List UInt8) (hs:s.length≤1000000) (w:World) (hT:TM w):
  Calls Tryz.prog 82 #[.string (txt s)] w fun e w'=>e=.returned (.bool (Tr (WhoP s)))∧Below w.heap.size w w':=by
 have hC:=Tryz.strings_CutPrefix (txt s) ⟨#[64]⟩ w
 rw[txt_toList,show (⟨#[64]⟩:ByteArray).data.toList=[64] from rfl] at hC
 have q1:=toeq s [42]
 have q2:=toeq s [45]
 have q3:=toeq s [61]
 cases whoWay s with
 | any h=>
  rw[Tr_yes (show WhoP s from Or.inl h)]
  rw[show (s==[42])=true by rw[h];rfl] at q1
  rw[show (s==[45])=false by rw[h];rfl] at q2
  generalize txt s=S at *
  clear hC h hs hT q3
  go_enter Tryz.func82,Tryz.ntmps82
  go_wp2
  go_ret
  exact⟨rfl,Below.refl _ _⟩
 | none h=>
  rw[Tr_yes (show WhoP s from Or.inr (Or.inl h))]
  rw[show (s==[42])=false by rw[h];rfl] at q1
  rw[show (s==[45])=true by rw[h];rfl] at q2
  generalize txt s=S at *
  clear hC h hs hT q3
  go_enter Tryz.func82,Tryz.ntmps82
  go_wp2
  go_ret
  exact⟨rfl,Below.refl _ _⟩
 | self h=>
  rw[Tr_yes (show WhoP s from Or.inr (Or.inr (Or.inl h)))]
  rw[show (s==[42])=false by rw[h];rfl] at q1
  rw[show (s==[45])=false by rw[h];rfl] at q2
  rw[show (s==[61])=true by rw[h];rfl] at q3
  generalize txt s=S at *
  clear hC h hs hT
  go_enter Tryz.func82,Tryz.ntmps82
  go_wp2
  go_ret
  exact⟨rfl,Below.refl _ _⟩
 | name l h=>
  subst h
  have hN:=isnormal_any l (by simp at hs;omega) w hT
  obtain⟨b,hb⟩:∃b,Tr (NormP l)=b:=⟨_,rfl⟩
  have hB:Tr (WhoP (64::l))=b:=by
   rw[←hb]
   by_cases hp:NormP l
   ·rw [Tr_yes hp,Tr_yes (who_name.2 hp)]
   ·rw [Tr_no hp,Tr_no fun k=>hp (who_name.1 k)]
  rw[hB]
  rw[hb] at hN
  rw[trim_at,pre_at] at hC
  rw[show ((64::l)==[42])=false by simp] at q1
  rw[show ((64::l)==[45])=false by simp] at q2
  rw[show ((64::l)==[61])=false by simp] at q3
  change Calls _ _ _ _ (fun e w'=>e=.returned (.tuple #[.string (txt l),.bool true])∧w'=w) at hC
  generalize txt (64::l)=S at *
  generalize txt l=U at *
  clear hs hT hb hB
  go_enter Tryz.func82,Tryz.ntmps82
  go_wp2_with (go_at_call 102;fail)
  refine hC.mono ?_
  rintro e w1 ⟨rfl,hw1⟩
  obtain rfl:=hw1.symm
  clear hC hw1
  go_wp2_with (go_at_call 83;fail)
  refine hN.mono ?_
  rintro e w2 ⟨rfl,hb⟩
  clear hN
  go_wp2
  go_ret
  exact⟨rfl,hb⟩
 | bad h1 h2 h3 h=>
  rw[Tr_no (who_bad h1 h2 h3 h)]
  rw[trim_no h,pre_no h] at hC
  rw[show (s==[42])=false by simpa using h1] at q1
  rw[show (s==[45])=false by simpa using h2] at q2
  rw[show (s==[61])=false by simpa using h3] at q3
  change Calls _ _ _ _ (fun e w'=>e=.returned (.tuple #[.string (txt s),.bool false])∧w'=w) at hC
  generalize txt s=S at *
  clear hs hT h h1 h2 h3
  go_enter Tryz.func82,Tryz.ntmps82
  go_wp2_with (go_at_call 102;fail)
  refine hC.mono ?_
  rintro e w1 ⟨rfl,hw1⟩
  obtain rfl:=hw1.symm
  clear hC hw1
  go_wp2
  go_ret
  exact⟨rfl,Below.refl _ _⟩
end Go.Proofs.YtjjepcnijmlliaaGreatDoor
namespace Go.Proofs.YtjjepcnijmlliaaGreatDoor
open Go.RowKit
set_option linter.unusedVariables false
def Ru.small (r:Ru):Prop:=r.who.length+r.tgt.length+r.att.length≤3000
theorem ruformed_any (r:Ru) (hr:r.small) (w:World) (hT:TM w):
  Calls Tryz.prog 62 #[.agg #[.string (txt r.who),.string (txt r.tgt),.string (txt r.att),.int .i64 r.rts,.bool r.alw]] w fun e w'=>e=.returned (.bool (Tr (FormedP r)))∧Below w.heap.size w w':=by
 unfold Ru.small at hr
 have hN:=fun w hT=>tname_any r.att w hT
 have hW:=fun w hT=>iswho_any r.who (by omega) w hT
 have hG:=fun w hT=>isnormal_any r.tgt (by omega) w hT
 have hX:=Box5.new w (txt r.who) (txt r.tgt) (txt r.att) r.rts r.alw 58
 have hb1:=below1 w (.cells #[.string (txt r.who),.string (txt r.tgt),.string (txt r.att),.int .i64 r.rts,.bool r.alw] 58)
 have hT1:=hT.below hb1
 have c2:=hX.c2
 have hp:=(⟨fun ⟨a,b,c,d,e⟩=>⟨a.1,a.2,b,c,d,e⟩,fun ⟨a,a',b,c,d,e⟩=>⟨⟨a,a'⟩,b,c,d,e⟩⟩:FormedP r↔((tnV r.att).2=true∧(tnV r.att).1=r.att∧1≤r.rts∧r.rts≤63∧WhoP r.who∧NormP r.tgt))
 by_cases h1:(tnV r.att).2=true
 ·by_cases h2:(tnV r.att).1=r.att
  ·have q2:((txt (tnV r.att).1).toList==(txt r.att).toList)=true:=by rw[h2];simp
   by_cases h3:1≤r.rts
   ·by_cases h4:r.rts≤63
    ·rw [show Tr (FormedP r)=(Tr (WhoP r.who)&&Tr (NormP r.tgt)) by
      by_cases h5:WhoP r.who
      ·by_cases h6:NormP r.tgt
       ·rw [Tr_yes h5,Tr_yes h6,Tr_yes (hp.2 ⟨h1,h2,h3,h4,h5,h6⟩)];rfl
       ·rw [Tr_no h6,Tr_no fun h=>h6 (hp.1 h).2.2.2.2.2];simp
      ·rw [Tr_no h5,Tr_no fun h=>h5 (hp.1 h).2.2.2.2.1];rfl]
     rw[h1] at hN
     generalize Tr (WhoP r.who)=bw at *
     generalize Tr (NormP r.tgt)=bt at *
     generalize r.rts=x at *
     generalize txt r.who=SW at *
     generalize txt r.tgt=ST at *
     generalize txt r.att=SA at *
     generalize txt (tnV r.att).1=SN at *
     generalize r.alw=al at *
     clear h1 h2 hp hr hT
     cases bw with
     | true=>
      go_enter Tryz.func62,Tryz.ntmps62
      go_wp2_with (go_at_call 61;fail)
      refine (hN _ hT1).mono ?_
      rintro e w2 ⟨rfl,hb2⟩
      have hX2:=hX.grow hb2
      have hbb:=hb1.trans (hb2.mono hb1.size)
      have hT2:=hT1.below hb2
      have e0:=hX2.c0
      have e1:=hX2.c1
      have e2:=hX2.c2
      have e3:=hX2.c3
      have hlt2:=hX2.lt
      clear hN hb1 hb2 hX hX2 hT1 c2
      go_wp2_with (go_at_call 82;fail)
      refine (hW _ hT2).mono ?_
      rintro e w3 ⟨rfl,hb3⟩
      have e4:=(hb3.cell (p:=⟨w.heap.size,1,none⟩) hlt2).trans e1
      have hbc:=hbb.trans (hb3.mono hbb.size)
      have hT3:=hT2.below hb3
      clear hW hb3 hbb e0 e1 e2 e3 hT2
      go_wp2_with (go_at_call 83;fail)
      refine (hG _ hT3).mono ?_
      rintro e w4 ⟨rfl,hb4⟩
      have hbb:=hbc.trans (hb4.mono hbc.size)
      clear hG hb4 hbc e4 hT3
      go_wp2
      go_ret
      exact⟨rfl,hbb⟩
     | false=>
      clear hG
      go_enter Tryz.func62,Tryz.ntmps62
      go_wp2_with (go_at_call 61;fail)
      refine (hN _ hT1).mono ?_
      rintro e w2 ⟨rfl,hb2⟩
      have hX2:=hX.grow hb2
      have hbb:=hb1.trans (hb2.mono hb1.size)
      have hT2:=hT1.below hb2
      have e0:=hX2.c0
      have e1:=hX2.c1
      have e2:=hX2.c2
      have e3:=hX2.c3
      have hlt2:=hX2.lt
      clear hN hb1 hb2 hX hX2 hT1 c2
      go_wp2_with (go_at_call 82;fail)
      refine (hW _ hT2).mono ?_
      rintro e w3 ⟨rfl,hb3⟩
      have hbc:=hbb.trans (hb3.mono hbb.size)
      clear hW hb3 hbb e0 e1 e2 e3 hT2
      have hbb:=hbc
      clear hbc
      go_wp2
      go_ret
      exact⟨rfl,hbb⟩
    ·rw [Tr_no fun h=>h4 (hp.1 h).2.2.2.1]
     rw[h1] at hN
     generalize r.rts=x at *
     generalize txt r.who=SW at *
     generalize txt r.tgt=ST at *
     generalize txt r.att=SA at *
     generalize txt (tnV r.att).1=SN at *
     generalize r.alw=al at *
     clear h1 h2 hp hr hT hW hG
     go_enter Tryz.func62,Tryz.ntmps62
     go_wp2_with (go_at_call 61;fail)
     refine (hN _ hT1).mono ?_
     rintro e w2 ⟨rfl,hb2⟩
     have hX2:=hX.grow hb2
     have hbb:=hb1.trans (hb2.mono hb1.size)
     have hT2:=hT1.below hb2
     have e0:=hX2.c0
     have e1:=hX2.c1
     have e2:=hX2.c2
     have e3:=hX2.c3
     have hlt2:=hX2.lt
     clear hN hb1 hb2 hX hX2 hT1 c2
     go_wp2
     go_ret
     exact⟨rfl,hbb⟩
   ·rw [Tr_no fun h=>h3 (hp.1 h).2.2.1]
    rw[h1] at hN
    generalize r.rts=x at *
    generalize txt r.who=SW at *
    generalize txt r.tgt=ST at *
    generalize txt r.att=SA at *
    generalize txt (tnV r.att).1=SN at *
    generalize r.alw=al at *
    clear h1 h2 hp hr hT hW hG
    go_enter Tryz.func62,Tryz.ntmps62
    go_wp2_with (go_at_call 61;fail)
    refine (hN _ hT1).mono ?_
    rintro e w2 ⟨rfl,hb2⟩
    have hX2:=hX.grow hb2
    have hbb:=hb1.trans (hb2.mono hb1.size)
    have hT2:=hT1.below hb2
    have e0:=hX2.c0
    have e1:=hX2.c1
    have e2:=hX2.c2
    have e3:=hX2.c3
    have hlt2:=hX2.lt
    clear hN hb1 hb2 hX hX2 hT1 c2
    go_wp2
    go_ret
    exact⟨rfl,hbb⟩
  ·rw [Tr_no fun h=>h2 (hp.1 h).2.1]
   have q2:=str_ne h2
   rw[h1] at hN
   generalize r.rts=x at *
   generalize txt r.who=SW at *
   generalize txt r.tgt=ST at *
   generalize txt r.att=SA at *
   generalize txt (tnV r.att).1=SN at *
   generalize r.alw=al at *
   clear h1 h2 hp hr hT hW hG
   go_enter Tryz.func62,Tryz.ntmps62
   go_wp2_with (go_at_call 61;fail)
   refine (hN _ hT1).mono ?_
   rintro e w2 ⟨rfl,hb2⟩
   have hX2:=hX.grow hb2
   have hbb:=hb1.trans (hb2.mono hb1.size)
   have hT2:=hT1.below hb2
   have e0:=hX2.c0
   have e1:=hX2.c1
   have e2:=hX2.c2
   have e3:=hX2.c3
   have hlt2:=hX2.lt
   clear hN hb1 hb2 hX hX2 hT1 c2
   go_wp2
   go_ret
   exact⟨rfl,hbb⟩
 ·rw [Tr_no fun h=>h1 (hp.1 h).1]
  rw[show (tnV r.att).2=false by simpa using h1] at hN
  generalize r.rts=x at *
  generalize txt r.who=SW at *
  generalize txt r.tgt=ST at *
  generalize txt r.att=SA at *
  generalize txt (tnV r.att).1=SN at *
  generalize r.alw=al at *
  clear h1 hp hr hT hW hG
  go_enter Tryz.func62,Tryz.ntmps62
  go_wp2_with (go_at_call 61;fail)
  refine (hN _ hT1).mono ?_
  rintro e w2 ⟨rfl,hb2⟩
  have hX2:=hX.grow hb2
  have hbb:=hb1.trans (hb2.mono hb1.size)
  have hT2:=hT1.below hb2
  have e0:=hX2.c0
  have e1:=hX2.c1
  have e2:=hX2.c2
  have e3:=hX2.c3
  have hlt2:=hX2.lt
  clear hN hb1 hb2 hX hX2 hT1 c2
  go_wp2
  go_ret
  exact⟨rfl,hbb⟩
theorem rusformed_any (L:List Ru) (w:World) (A:Option Addr) (n c:Nat) (hA:Has w w.heap.size 5 A n (rusC L)) (hs:∀r∈L,r.small) (hn:n≤1000000) (hT:TM w):
  Calls Tryz.prog 34 #[.slice A n c] w fun e w'=>e=.returned (.bool (Tr (AllP L)))∧Below w.heap.size w w':=by
 have hnl:=hA.rules_n
 by_cases h40:n≤40
 ·have z1:¬((40:Int)<(n:Int)):=by omega
  obtain⟨R,hR⟩:∃R,Tr (AllP L)=R:=⟨_,rfl⟩
  rw[hR]
  have HR:=hide hR
  have HA:=hide hA
  have HS:=hide hs
  have HL:=hide hnl
  clear hA hs hnl hR
  go_enter Tryz.func34,Tryz.ntmps34
  go_wp2
  go_loopg [10] n (fun k s10 wx=>∃i:Nat,i+k=n∧s10=.int .i64 (i:Int)∧Hid (∀r∈L.take i,FormedP r)∧Below w.heap.size w wx)
  case atStart=>exact⟨0,by omega,rfl,hide fun r hr=>(by simp at hr),Below.refl _ _⟩
  case round=>
   obtain⟨i,hig,rfl,hpre,hbr⟩:=hrel
   cases gk with
   | zero=>
    obtain rfl:i=n:=by omega
    have hiz:¬((i:Int)<(i:Int)):=by omega
    have hp:=hpre.out
    rw[List.take_of_length_le (by rw[HL.out];exact Nat.le_refl _)] at hp
    have hR1:Hid (R=true):=hide (by rw[←HR.out];exact Tr_yes ⟨by rw[←HL.out];exact h40,hp⟩)
    clear HR HA HS HL hp hpre hT
    go_wp2
    go_ret
    exact⟨by rw[hR1.out];rfl,hbr⟩
   | succ k=>
    have hi:i<n:=by omega
    have hiz:(i:Int)<(n:Int):=by omega
    obtain⟨r,hr⟩:∃r,L[i]?=some r:=⟨_,List.getElem?_eq_getElem (by rw[←HL.out];exact hi)⟩
    obtain⟨g,o,hAe,hg,hat⟩:=HA.out.rule (fun h=>by rw[h] at hr;simp at hr)
    subst hAe
    obtain⟨c0,c1,c2,c3,c4⟩:=(hat i r hr).below hg hbr
    have hrs:=HS.out r (List.mem_of_getElem? hr)
    have hF:=fun w hT=>ruformed_any r hrs w hT
    have hbr1:=hbr.alloc hbr.size (.cells #[.string (txt r.who),.string (txt r.tgt),.string (txt r.att),.int .i64 r.rts,.bool r.alw] 58)
    have hX:=Box5.new wr (txt r.who) (txt r.tgt) (txt r.att) r.rts r.alw 58
    obtain⟨_,d0,d1,d2,d3,d4⟩:=hX
    have htk:L.take (i+1)=L.take i++[r]:=by rw[List.take_add_one,hr];rfl
    by_cases hp:FormedP r
    ·rw [Tr_yes hp] at hF
     have hnext:Hid (∀q∈L.take (i+1),FormedP q):=hide (by
      rw[htk]
      intro q hq
      rcases List.mem_append.1 hq with h | h
      ·exact hpre.out q h
      ·obtain rfl:=List.mem_singleton.1 h
       exact hp)
     generalize txt r.who=SW at *
     generalize txt r.tgt=ST at *
     generalize txt r.att=SA at *
     generalize r.rts=x at *
     generalize r.alw=al at *
     clear hat hr hrs htk hp hpre
     go_wp2_with (go_at_call 62;fail)
     refine (hF _ (hT.below hbr1)).mono ?_
     rintro e w3 ⟨rfl,hb3⟩
     have hbr3:=hbr1.trans (hb3.mono hbr1.size)
     clear hF hb3 hbr1 hbr c0 c1 c2 c3 c4 d0 d1 d2 d3 d4
     go_wp2
     go_roundg k
     case measure=>omega
     case rel=>exact⟨i+1,by omega,by go_num,hnext,hbr3⟩
    ·rw [Tr_no hp] at hF
     have hR1:Hid (R=false):=hide (by rw[←HR.out];exact Tr_no fun h=>hp (h.2 r (List.mem_of_getElem? hr)))
     generalize txt r.who=SW at *
     generalize txt r.tgt=ST at *
     generalize txt r.att=SA at *
     generalize r.rts=x at *
     generalize r.alw=al at *
     clear hat hr hrs htk hp hpre HR HA HS HL
     go_wp2_with (go_at_call 62;fail)
     refine (hF _ (hT.below hbr1)).mono ?_
     rintro e w3 ⟨rfl,hb3⟩
     have hbr3:=hbr1.trans (hb3.mono hbr1.size)
     clear hF hb3 hbr1 hbr c0 c1 c2 c3 c4 d0 d1 d2 d3 d4
     go_wp2
     go_ret
     exact⟨by rw[hR1.out];rfl,hbr3⟩
 ·have z1:((40:Int)<(n:Int)):=by omega
  rw[Tr_no fun h=>h40 (by rw[hnl];exact h.1)]
  clear hA hs hnl
  go_enter Tryz.func34,Tryz.ntmps34
  go_wp2
  go_ret
  exact⟨rfl,Below.refl _ _⟩
end Go.Proofs.YtjjepcnijmlliaaGreatDoor
namespace Go.Proofs.YtjjepcnijmlliaaGreatDoor
open Go.RowKit
set_option linter.unusedVariables false
structure Blk (w:World) (h:Nat) (us:List Value):Prop where
 lt:h<w.heap.size
 cells:∀(i:Nat) (u:Value),us[i]?=some u→w.cell? ⟨h,i,none⟩=some u
 fz:∀i,w.frozen? ⟨h,i,none⟩=false
section
variable {w w':World} {h:Nat} {us:List Value}
theorem Blk.new (w:World) (us:List Value) (e:TypeId):Blk (w.alloc (.cells us.toArray e)) w.heap.size us:=
 ⟨by simp,fun i u hu=>by
  have hi:=(List.getElem?_eq_some_iff.1 hu).1
  rw[World.cell?_alloc_at (hn:=by simp)]
  simp[hu],fun i=>World.frozen?_alloc_at _ _ _ _ rfl⟩
theorem Blk.below (t:Blk w h us) {B:Nat} (hB:h<B) (hb:Below B w w'):Blk w' h us:=
 ⟨Nat.lt_of_lt_of_le t.lt hb.size,fun i u hu=>(hb.cell (p:=⟨h,i,none⟩) hB).trans (t.cells i u hu),fun i=>(hb.frozen (p:=⟨h,i,none⟩) hB).trans (t.fz i)⟩
theorem Blk.grow (t:Blk w h us) (hb:Below w.heap.size w w'):Blk w' h us:=t.below t.lt hb
theorem Blk.set (t:Blk w h us) (i:Nat) (u:Value) (hi:i<us.length):Blk (w.setCell ⟨h,i,none⟩ u) h (us.set i u):=by
 refine⟨by simpa[World.setCell] using t.lt,fun j v hv=>?_,fun j=>by rw[World.frozen?_setCell];exact t.fz j⟩
 rw[List.getElem?_set] at hv
 split at hv
 ·rename_i hij
  subst hij
  try rw[if_pos hi] at hv
  cases hv
  exact World.cell?_setCell_same _ _ _ (t.cells i us[i] (List.getElem?_eq_getElem hi))
 ·rename_i hij
  rw[World.cell?_setCell_other _ _ _ _ (by simp;try omega)]
  exact t.cells j v hv
theorem Blk.there (t:Blk w h us) (o n:Nat) (hn:o+n≤us.length):w.there h o n:=fun j hj=>
 ⟨by rw[t.cells (o+j) us[o+j] (List.getElem?_eq_getElem (by omega))];rfl,t.fz _⟩
theorem Blk.range (t:Blk w h us):w.rangeAt h 0 us:=fun j u hu=>by rw[Nat.zero_add];exact t.cells j u hu
theorem setCells_size (h:Nat):∀(vs:List Value) (o:Nat) (w:World),(w.setCells h o vs).heap.size=w.heap.size
 | [],o,w=>rfl
 | v::r,o,w=>by rw[World.setCells,setCells_size h r];simp[World.setCell]
theorem setCells_out (h j:Nat):∀(vs:List Value) (o:Nat) (w:World),(j<o∨o+vs.length≤j)→(w.setCells h o vs).cell? ⟨h,j,none⟩=w.cell? ⟨h,j,none⟩
 | [],o,w,_=>rfl
 | v::r,o,w,hj=>by
  simp only[List.length_cons] at hj
  rw[World.setCells,setCells_out h j r (o+1) _ (by omega),World.cell?_setCell_other _ _ _ _ (by simp;try omega)]
theorem Blk.sets (t:Blk w h us) (o:Nat) (cs:List Value) (ho:o+cs.length≤us.length) (vs:List Value) (hv:vs=us.take o++cs++us.drop (o+cs.length)):Blk (w.setCells h o cs) h vs:=by
 subst hv
 refine⟨by rw[setCells_size];exact t.lt,fun j v hj=>?_,fun j=>by rw[World.frozen?_setCells];exact t.fz j⟩
 have hs:∀j,j<cs.length→(w.cell? ⟨h,o+j,none⟩).isSome=true:=fun j hj=>(t.there o cs.length ho j hj).1
 rw[List.append_assoc] at hj
 rcases Nat.lt_or_ge j o with h1 | h1
 ·rw [setCells_out h j cs o w (.inl h1)]
  rw[List.getElem?_append_left (by simp;omega),List.getElem?_take] at hj
  rw[if_pos h1] at hj
  exact t.cells j v hj
 ·rw [List.getElem?_append_right (by simp;omega)] at hj
  rw[show j-(us.take o).length=j-o by simp;omega] at hj
  rcases Nat.lt_or_ge (j-o) cs.length with h2 | h2
  ·rw [List.getElem?_append_left h2] at hj
   have:=World.cell?_setCells_in h cs o w hs (j-o) h2
   rw[show o+(j-o)=j by omega] at this
   rw[this,←hj,List.getElem?_eq_getElem h2]
  ·rw [List.getElem?_append_right h2,List.getElem?_drop] at hj
   rw[setCells_out h j cs o w (.inr (by omega))]
   exact t.cells j v (by rw[←hj];congr 1;omega)
end
section
variable {w w':World}
theorem grown_setCell (w:World) (h i:Nat) (u:Value):w.grownBy (w.setCell ⟨h,i,none⟩ u) (some h):=⟨rfl,rfl,rfl,by simp[World.setCell],fun k hk hne=>by
 simp only[World.setCell,Array.getElem?_modify]
 rw[if_neg (fun e=>hne (by rw[←e]))]⟩
theorem grown_setCells (h:Nat):∀(vs:List Value) (o:Nat) (w:World),w.grownBy (w.setCells h o vs) (some h)
 | [],o,w=>⟨rfl,rfl,rfl,Nat.le_refl _,fun _ _ _=>rfl⟩
 | v::r,o,w=>by
  have h1:=grown_setCell w h o v
  have h2:=grown_setCells h r (o+1) (w.setCell ⟨h,o,none⟩ v)
  rw[World.setCells]
  exact⟨h2.os.trans h1.os,h2.tape.trans h1.tape,h2.output.trans h1.output,Nat.le_trans h1.size h2.size,fun k hk hne=>(h2.block k (Nat.lt_of_lt_of_le hk h1.size) hne).trans (h1.block k hk hne)⟩
theorem below_of_grown {base:Nat} {row:Option Nat} (hg:w.grownBy w' row) (hrow:∀k,row=some k→base≤k) (hb:base≤w.heap.size):Below base w w':=
 (Below.refl _ _).grown hg hb hrow
end
theorem storeB {ops:Array Oper} {rest:List Oper} {o:Oper} {a:Act} {Q:Exit→Act→World→Prop} (w:World) (hgd:o.guard=none) (ty:TypeId) (x y:Operand) (ho:o.op=.store ty x y)
  (h off:Nat) (us:List Value) (cs:List Value) (hx:a.eval x=.pointer (some ⟨h,off,none⟩)) (hy:a.eval y=.agg cs.toArray) (hB:Blk w h us) (hl:off+cs.length≤us.length) (hi:(Tryz.prog.info? ty).map (·.size)=some cs.length) (h1:∀u∈cs,u.oneCell'=true)
  (H:∀wz,wz=w.setCells h off cs→wpList Tryz.prog ops Q rest (a.put o.dst undef) wz):wpList Tryz.prog ops Q (o::rest) a w:=by
 refine wpList_store_mid hgd ty x y ho h off cs.toArray hx hy (by simpa using hB.there off cs.length hl) (by simpa using hi) (all_oneCell_toArray h1) ?_
 exact H _ (by simp)
section
variable {P:Program}
theorem step_store {ops:Array Oper} {o:Oper} {a:Act} {K:Act→World→Prop} {Q:Exit→Act→World→Prop} {E:Prop} (W:World) (d:Option Tmp) (hd:o.dst=d) (hgd:o.guard=none) (ty:TypeId) (x y:Operand) (ho:o.op=.store ty x y)
  (b off:Nat) (cells:Array Value) (hx:a.eval x=.pointer (some ⟨b,off,none⟩)) (hy:a.eval y=.agg cells) (ht:W.there b off cells.size) (hi:(P.info? ty).map (·.size)=some cells.size) (h1:cells.all (·.oneCell')=true)
  (h:K (a.put d undef) (W.setCells b off cells.toList)):if Region.wanted o (yielded ops a.tmps)=true then Oper.wp P o a W K Q else E:=by
 subst hd
 have hw:Region.wanted o (yielded ops a.tmps)=true:=by simp[Region.wanted,hgd]
 rw[if_pos hw]
 exact wp_store_mid ty x y ho b off cells hx hy ht hi h1 h
end
theorem results_cell1 {fn:Func} {p:Tmp} {ty:TypeId} (h:fn.results=#[.cell p ty]) (tmps:Array Value) {P:Program} (w:World) (b:Nat) (cs:List Value) (d:TypeDesc)
  (hp:tmps.getD p undef=.pointer (some ⟨b,0,none⟩)) (hc:w.rangeAt b 0 cs) (hu:P.underlying ty=some d) (hd:d.isRow=true) (hi:(P.info? ty).map (·.size)=some cs.length):
  (results fn tmps).run P w=.ok (.agg cs.toArray) w:=by
 have hp':tmps[p]?.getD undef=.pointer (some ⟨b,0,none⟩):=by simpa using hp
 simp[results,h,hp',asAddr,run_loadVar_mid w b 0 ty cs d hc hu hd hi]
theorem results_cell2 {fn:Func} {p u:Tmp} {ty:TypeId} (h:fn.results=#[.cell p ty,.tmp u]) (tmps:Array Value) {P:Program} (w:World) (b:Nat) (cs:List Value) (d:TypeDesc) (x:Value)
  (hp:tmps.getD p undef=.pointer (some ⟨b,0,none⟩)) (hx:tmps.getD u undef=x) (hc:w.rangeAt b 0 cs) (hu:P.underlying ty=some d) (hd:d.isRow=true) (hi:(P.info? ty).map (·.size)=some cs.length):
  (results fn tmps).run P w=.ok (.tuple #[.agg cs.toArray,x]) w:=by
 rw[results_cell_tmp h,hp,hx]
 simp[asAddr,run_loadVar_mid w b 0 ty cs d hc hu hd hi,Result.andThen]
theorem Blk.keep {w w':World} {h:Nat} {us:List Value} (t:Blk w h us) (hs:w.heap.size≤w'.heap.size) (hb:w'.heap[h]?=w.heap[h]?):Blk w' h us:=
 ⟨Nat.lt_of_lt_of_le t.lt hs,fun i u hu=>(World.cell?_of_block (a:=⟨h,i,none⟩) hb).trans (t.cells i u hu),fun i=>(World.frozen?_of_block (a:=⟨h,i,none⟩) hb).trans (t.fz i)⟩
theorem Blk.grown {w w':World} {h:Nat} {us:List Value} (t:Blk w h us) {row:Option Nat} (hg:w.grownBy w' row) (hne:row≠some h):Blk w' h us:=t.keep hg.size (hg.block h t.lt hne.symm)
theorem below_sets {base h:Nat} (w:World) (vs:List Value) (hh:base≤h) (hb:base≤w.heap.size):Below base w (w.setCells h 0 vs):=
 below_of_grown (grown_setCells h vs 0 w) (fun k hk=>by cases hk;exact hh) hb
end Go.Proofs.YtjjepcnijmlliaaGreatDoor
namespace Go.Proofs.YtjjepcnijmlliaaGreatDoor
open Go.RowKit
set_option linter.unusedVariables false
structure AskPost (s:List UInt8) (right:Int) (n a:List UInt8) (w:World) (e:Ending) (w':World):Prop where
 out:∃A B C r ok,e=.returned (.tuple #[.agg #[.string A,.string B,.string C,.int .i64 r],.bool ok])∧
  (AskP s right n a→ok=true∧Value.agg #[.string A,.string B,.string C,.int .i64 r]=.agg #[.string (txt (askV s right n a).s),.string (txt (askV s right n a).n),.string (txt (askV s right n a).t),.int .i64 (askV s right n a).right])∧
  (¬AskP s right n a→ok=false)∧Below w.heap.size w w'
theorem ask_any (s:List UInt8) (right:Int) (n a:List UInt8) (hs:s.length≤1000000) (hn:n.length≤1000000) (w:World) (hT:TM w):
  Calls Tryz.prog 33 #[.string (txt s),.int .i64 right,.string (txt n),.string (txt a)] w (AskPost s right n a w):=by
 have HRt:=hide (fun w=>isright_any right w)
 have HNs:=hide (fun w hT=>pnormal_text s hs w hT)
 have HNn:=hide (fun w hT=>pnormal_text n hn w hT)
 have HNt:=hide (fun w hT=>tname_any a w hT)
 have hb1:=below1 w (.cells #[.string ⟨#[]⟩,.string ⟨#[]⟩,.string ⟨#[]⟩,.int .i64 0] 70)
 have hB1:=Blk.new w [.string ⟨#[]⟩,.string ⟨#[]⟩,.string ⟨#[]⟩,.int .i64 0] 70
 have hT1:=hT.below hb1
 change Blk (w.alloc (.cells #[.string ⟨#[]⟩,.string ⟨#[]⟩,.string ⟨#[]⟩,.int .i64 0] 70)) _ _ at hB1
 obtain⟨w1,hw1⟩:∃w1,w.alloc (.cells #[.string ⟨#[]⟩,.string ⟨#[]⟩,.string ⟨#[]⟩,.int .i64 0] 70)=w1:=⟨_,rfl⟩
 obtain⟨h,hh⟩:∃h,w.heap.size=h:=⟨_,rfl⟩
 rw[hw1] at hb1 hB1 hT1
 have HC:=hide hb1
 rw[hh] at hB1
 have HB:=hide hB1
 have HT:=hide hT1
 have Hw1:=hide hw1
 have Hh:=hide hh
 clear hs hn hT hb1 hB1 hT1 hw1 hh
 suffices H:Calls Tryz.prog 33 #[.string (txt s),.int .i64 right,.string (txt n),.string (txt a)] w fun e w'=>∃A B C r ok,e=.returned (.tuple #[.agg #[.string A,.string B,.string C,.int .i64 r],.bool ok])∧
   (AskP s right n a→ok=true∧Value.agg #[.string A,.string B,.string C,.int .i64 r]=.agg #[.string (txt (askV s right n a).s),.string (txt (askV s right n a).n),.string (txt (askV s right n a).t),.int .i64 (askV s right n a).right])∧
   (¬AskP s right n a→ok=false)∧Below w.heap.size w w' from H.mono fun e w' h=>⟨h⟩
 have hask:askV s right n a=⟨(normT s).1,(normT n).1,(tnV a).1,right⟩:=rfl
 rw[hask]
 simp only
 obtain⟨AP,hAP⟩:∃p,AskP s right n a=p:=⟨_,rfl⟩
 rw[hAP]
 have hdef:AP=(RightP right∧(normT s).2=0∧(normT n).2=0∧(tnV a).2=true):=hAP.symm
 clear hAP hask
 by_cases h1:RightP right
 ·rw [Tr_yes h1] at HRt
  by_cases h2:(normT s).2=0
  ·rw [h2] at HNs
   by_cases h3:(normT n).2=0
   ·rw [h3] at HNn
    obtain⟨ok,hok⟩:∃ok,(tnV a).2=ok:=⟨_,rfl⟩
    rw[hok] at HNt
    have Hd:Hid (AP↔ok=true):=hide (by rw[hdef,hok];exact⟨fun h=>h.2.2.2,fun h=>⟨h1,h2,h3,h⟩⟩)
    clear h1 h2 h3 hok hdef
    generalize txt (normT s).1=NS at *
    generalize txt (normT n).1=NN at *
    generalize txt (tnV a).1=NA at *
    generalize txt s=S at *
    generalize txt n=U at *
    generalize txt a=V at *
    go_enter Tryz.func33,Tryz.ntmps33
    go_upto_region 1 with fail
    rw[Hw1.out]
    try rw[Hh.out]
    go_wp2_with (go_at_call 59;fail)
    refine (HRt.out _).mono ?_
    rintro e w2 ⟨rfl,hw2⟩
    obtain rfl:=hw2.symm
    clear hw2
    go_wp2_with (go_at_call 60;fail)
    refine (HNs.out _ HT.out).mono ?_
    rintro e w3 ⟨rfl,hb3⟩
    have HB3:=hide (HB.out.grow hb3)
    have HC3:=hide (HC.out.trans (hb3.mono HC.out.size))
    have HT3:=hide (HT.out.below hb3)
    clear hb3 HB HC HT HNs
    have HB:=HB3
    have HC:=HC3
    have HT:=HT3
    clear HB3 HC3 HT3
    go_wp2_with (go_at_call 60;fail)
    refine (HNn.out _ HT.out).mono ?_
    rintro e w4 ⟨rfl,hb4⟩
    have HB3:=hide (HB.out.grow hb4)
    have HC3:=hide (HC.out.trans (hb4.mono HC.out.size))
    have HT3:=hide (HT.out.below hb4)
    clear hb4 HB HC HT HNn
    have HB:=HB3
    have HC:=HC3
    have HT:=HT3
    clear HB3 HC3 HT3
    go_wp2_with (go_at_call 61;fail)
    refine (HNt.out _ HT.out).mono ?_
    rintro e w5 ⟨rfl,hb5⟩
    have HB3:=hide (HB.out.grow hb5)
    have HC3:=hide (HC.out.trans (hb5.mono HC.out.size))
    have HT3:=hide (HT.out.below hb5)
    clear hb5 HB HC HT HNt
    have HB:=HB3
    have HC:=HC3
    have HT:=HT3
    clear HB3 HC3 HT3
    go_wp2_with (refine storeB w5 rfl 70 (.tmp 8) (.tmp 44) rfl h 0 _ [.string NS,.string NN,.string NA,.int .i64 right] rfl rfl HB.out (by simp) (by kernel_rfl) (by simp[Value.oneCell']) ?_)
    have hBz:=HB.out.sets 0 [.string NS,.string NN,.string NA,.int .i64 right] (by simp) [.string NS,.string NN,.string NA,.int .i64 right] (by simp)
    have hbz:=HC.out.trans (below_sets (base:=w.heap.size) (h:=h) w5 [.string NS,.string NN,.string NA,.int .i64 right] (by rw[Hh.out];exact Nat.le_refl _) HC.out.size)
    have HBz:=hide hBz
    have Hbz:=hide hbz
    clear hBz hbz HB HC
    generalize w5.setCells h 0 [.string NS,.string NN,.string NA,.int .i64 right]=wz at *
    refine bodyPost_ret (v:=.tuple #[.agg #[.string NS,.string NN,.string NA,.int .i64 right],.bool ok]) ?_ rfl ?_
    ·exact results_cell2 rfl _ wz h [.string NS,.string NN,.string NA,.int .i64 right] _ _ rfl rfl HBz.out.range Tryz.underlying70 rfl (by kernel_rfl)
    ·exact ⟨_,_,_,_,_,rfl,fun hp=>⟨Hd.out.1 hp,rfl⟩,fun hp=>by cases ok with | false=>rfl | true=>exact absurd (Hd.out.2 rfl) hp,Hbz.out⟩
   ·have q3:((normT n).2==0)=false:=beq_false_of_ne h3
    have q3':((normT n).2 !=0)=true:=by unfold bne;rw[q3];rfl
    have Hno:Hid (¬AP):=hide (by rw[hdef];exact fun h=>h3 h.2.2.1)
    clear h1 h2 h3 hdef HNt
    generalize (normT n).2=y at *
    generalize txt (normT s).1=NS at *
    generalize txt (normT n).1=NN at *
    generalize txt (tnV a).1=NA at *
    generalize txt s=S at *
    generalize txt n=U at *
    generalize txt a=V at *
    go_enter Tryz.func33,Tryz.ntmps33
    go_upto_region 1 with fail
    rw[Hw1.out]
    try rw[Hh.out]
    go_wp2_with (go_at_call 59;fail)
    refine (HRt.out _).mono ?_
    rintro e w2 ⟨rfl,hw2⟩
    obtain rfl:=hw2.symm
    clear hw2
    go_wp2_with (go_at_call 60;fail)
    refine (HNs.out _ HT.out).mono ?_
    rintro e w3 ⟨rfl,hb3⟩
    have HB3:=hide (HB.out.grow hb3)
    have HC3:=hide (HC.out.trans (hb3.mono HC.out.size))
    have HT3:=hide (HT.out.below hb3)
    clear hb3 HB HC HT HNs
    have HB:=HB3
    have HC:=HC3
    have HT:=HT3
    clear HB3 HC3 HT3
    go_wp2_with (go_at_call 60;fail)
    refine (HNn.out _ HT.out).mono ?_
    rintro e w4 ⟨rfl,hb4⟩
    have HB3:=hide (HB.out.grow hb4)
    have HC3:=hide (HC.out.trans (hb4.mono HC.out.size))
    have HT3:=hide (HT.out.below hb4)
    clear hb4 HB HC HT HNn
    have HB:=HB3
    have HC:=HC3
    have HT:=HT3
    clear HB3 HC3 HT3
    go_wp2_with (refine storeB w4 rfl 70 (.tmp 8) (.tmp 34) rfl h 0 _ [.string ⟨#[]⟩,.string ⟨#[]⟩,.string ⟨#[]⟩,.int .i64 0] rfl rfl HB.out (by simp) (by kernel_rfl) (by simp[Value.oneCell']) ?_)
    have hBz:=HB.out.sets 0 [.string ⟨#[]⟩,.string ⟨#[]⟩,.string ⟨#[]⟩,.int .i64 0] (by simp) [.string ⟨#[]⟩,.string ⟨#[]⟩,.string ⟨#[]⟩,.int .i64 0] (by simp)
    have hbz:=HC.out.trans (below_sets (base:=w.heap.size) (h:=h) w4 [.string ⟨#[]⟩,.string ⟨#[]⟩,.string ⟨#[]⟩,.int .i64 0] (by rw[Hh.out];exact Nat.le_refl _) HC.out.size)
    have HBz:=hide hBz
    have Hbz:=hide hbz
    clear hBz hbz HB HC
    generalize w4.setCells h 0 [.string ⟨#[]⟩,.string ⟨#[]⟩,.string ⟨#[]⟩,.int .i64 0]=wz at *
    refine bodyPost_ret (v:=.tuple #[.agg #[.string ⟨#[]⟩,.string ⟨#[]⟩,.string ⟨#[]⟩,.int .i64 0],.bool false]) ?_ rfl ?_
    ·exact results_cell2 rfl _ wz h [.string ⟨#[]⟩,.string ⟨#[]⟩,.string ⟨#[]⟩,.int .i64 0] _ _ rfl rfl HBz.out.range Tryz.underlying70 rfl (by kernel_rfl)
    ·exact ⟨_,_,_,_,_,rfl,fun hp=>absurd hp Hno.out,fun _=>rfl,Hbz.out⟩
  ·have q2:((normT s).2==0)=false:=beq_false_of_ne h2
   have q2':((normT s).2 !=0)=true:=by unfold bne;rw[q2];rfl
   have Hno:Hid (¬AP):=hide (by rw[hdef];exact fun h=>h2 h.2.1)
   clear h1 h2 hdef HNt HNn
   generalize (normT s).2=y at *
   generalize txt (normT s).1=NS at *
   generalize txt (normT n).1=NN at *
   generalize txt (tnV a).1=NA at *
   generalize txt s=S at *
   generalize txt n=U at *
   generalize txt a=V at *
   go_enter Tryz.func33,Tryz.ntmps33
   go_upto_region 1 with fail
   rw[Hw1.out]
   try rw[Hh.out]
   go_wp2_with (go_at_call 59;fail)
   refine (HRt.out _).mono ?_
   rintro e w2 ⟨rfl,hw2⟩
   obtain rfl:=hw2.symm
   clear hw2
   go_wp2_with (go_at_call 60;fail)
   refine (HNs.out _ HT.out).mono ?_
   rintro e w3 ⟨rfl,hb3⟩
   have HB3:=hide (HB.out.grow hb3)
   have HC3:=hide (HC.out.trans (hb3.mono HC.out.size))
   have HT3:=hide (HT.out.below hb3)
   clear hb3 HB HC HT HNs
   have HB:=HB3
   have HC:=HC3
   have HT:=HT3
   clear HB3 HC3 HT3
   go_wp2_with (refine storeB w3 rfl 70 (.tmp 8) (.tmp 26) rfl h 0 _ [.string ⟨#[]⟩,.string ⟨#[]⟩,.string ⟨#[]⟩,.int .i64 0] rfl rfl HB.out (by simp) (by kernel_rfl) (by simp[Value.oneCell']) ?_)
   have hBz:=HB.out.sets 0 [.string ⟨#[]⟩,.string ⟨#[]⟩,.string ⟨#[]⟩,.int .i64 0] (by simp) [.string ⟨#[]⟩,.string ⟨#[]⟩,.string ⟨#[]⟩,.int .i64 0] (by simp)
   have hbz:=HC.out.trans (below_sets (base:=w.heap.size) (h:=h) w3 [.string ⟨#[]⟩,.string ⟨#[]⟩,.string ⟨#[]⟩,.int .i64 0] (by rw[Hh.out];exact Nat.le_refl _) HC.out.size)
   have HBz:=hide hBz
   have Hbz:=hide hbz
   clear hBz hbz HB HC
   generalize w3.setCells h 0 [.string ⟨#[]⟩,.string ⟨#[]⟩,.string ⟨#[]⟩,.int .i64 0]=wz at *
   refine bodyPost_ret (v:=.tuple #[.agg #[.string ⟨#[]⟩,.string ⟨#[]⟩,.string ⟨#[]⟩,.int .i64 0],.bool false]) ?_ rfl ?_
   ·exact results_cell2 rfl _ wz h [.string ⟨#[]⟩,.string ⟨#[]⟩,.string ⟨#[]⟩,.int .i64 0] _ _ rfl rfl HBz.out.range Tryz.underlying70 rfl (by kernel_rfl)
   ·exact ⟨_,_,_,_,_,rfl,fun hp=>absurd hp Hno.out,fun _=>rfl,Hbz.out⟩
 ·rw [Tr_no h1] at HRt
  have Hno:Hid (¬AP):=hide (by rw[hdef];exact fun h=>h1 h.1)
  clear h1 hdef HNt HNn HNs
  generalize txt (normT s).1=NS at *
  generalize txt (normT n).1=NN at *
  generalize txt (tnV a).1=NA at *
  generalize txt s=S at *
  generalize txt n=U at *
  generalize txt a=V at *
  go_enter Tryz.func33,Tryz.ntmps33
  go_upto_region 1 with fail
  rw[Hw1.out]
  try rw[Hh.out]
  go_wp2_with (go_at_call 59;fail)
  refine (HRt.out _).mono ?_
  rintro e w2 ⟨rfl,hw2⟩
  obtain rfl:=hw2.symm
  clear hw2
  go_wp2_with (refine storeB w1 rfl 70 (.tmp 8) (.tmp 18) rfl h 0 _ [.string ⟨#[]⟩,.string ⟨#[]⟩,.string ⟨#[]⟩,.int .i64 0] rfl rfl HB.out (by simp) (by kernel_rfl) (by simp[Value.oneCell']) ?_)
  have hBz:=HB.out.sets 0 [.string ⟨#[]⟩,.string ⟨#[]⟩,.string ⟨#[]⟩,.int .i64 0] (by simp) [.string ⟨#[]⟩,.string ⟨#[]⟩,.string ⟨#[]⟩,.int .i64 0] (by simp)
  have hbz:=HC.out.trans (below_sets (base:=w.heap.size) (h:=h) w1 [.string ⟨#[]⟩,.string ⟨#[]⟩,.string ⟨#[]⟩,.int .i64 0] (by rw[Hh.out];exact Nat.le_refl _) HC.out.size)
  have HBz:=hide hBz
  have Hbz:=hide hbz
  clear hBz hbz HB HC
  generalize w1.setCells h 0 [.string ⟨#[]⟩,.string ⟨#[]⟩,.string ⟨#[]⟩,.int .i64 0]=wz at *
  refine bodyPost_ret (v:=.tuple #[.agg #[.string ⟨#[]⟩,.string ⟨#[]⟩,.string ⟨#[]⟩,.int .i64 0],.bool false]) ?_ rfl ?_
  ·exact results_cell2 rfl _ wz h [.string ⟨#[]⟩,.string ⟨#[]⟩,.string ⟨#[]⟩,.int .i64 0] _ _ rfl rfl HBz.out.range Tryz.underlying70 rfl (by kernel_rfl)
  ·exact ⟨_,_,_,_,_,rfl,fun hp=>absurd hp Hno.out,fun _=>rfl,Hbz.out⟩
end Go.Proofs.YtjjepcnijmlliaaGreatDoor
namespace Go.Proofs.YtjjepcnijmlliaaGreatDoor
open Go.RowKit
set_option linter.unusedVariables false
theorem trimP_any (l:List UInt8) (w:World):Calls Tryz.prog 84 #[.string (txt l),.string ⟨#[64]⟩] w fun e w'=>e=.returned (.string (txt (trimAt l)))∧w'=w:=by
 have:=Tryz.strings_TrimPrefix (txt l) ⟨#[64]⟩ w
 rw[txt_toList] at this
 exact this
theorem isV_any {s n:List UInt8}:isV [42] s n=true:=by unfold isV;rw[if_pos rfl]
theorem isV_none {s n:List UInt8}:isV [45] s n=(s==[]):=by
 unfold isV
 rw[if_neg (by decide),if_pos rfl]
 cases s<;>simp
theorem isV_self {s n:List UInt8}:isV [61] s n=(!(s==[])&&(s==n)):=by
 unfold isV
 rw[if_neg (by decide),if_neg (by decide),if_pos rfl]
 by_cases h:s=[]
 ·subst h;simp
 ·by_cases h2:s=n
  ·have h3:¬n=[]:=fun e=>h (h2.trans e)
   simp[h2,h3]
  ·simp [h,h2]
theorem isV_else {t s n:List UInt8} (h1:t≠[42]) (h2:t≠[45]) (h3:t≠[61]):isV t s n=(!(s==[])&&underV s (trimAt t)):=by
 unfold isV
 rw[if_neg h1,if_neg h2,if_neg h3]
 by_cases h:s=[]<;>simp[h]
theorem isof_any (r:Ru) (q:Qn) (hr:r.who.length≤1000000) (hq:q.s.length≤1000000) (w:World) (hT:TM w):
  Calls Tryz.prog 63 #[.agg #[.string (txt r.who),.string (txt r.tgt),.string (txt r.att),.int .i64 r.rts,.bool r.alw],.agg #[.string (txt q.s),.string (txt q.n),.string (txt q.t),.int .i64 q.right]] w fun e w'=>e=.returned (.bool (isV r.who q.s q.n))∧Below w.heap.size w w':=by
 have HTr:=hide (fun w=>trimP_any r.who w)
 have HU:=hide (fun w hT=>punder_text q.s (trimAt r.who) hq (by have:=trim_len r.who;unfold trimAt;omega) w hT)
 have hb1:=below1 w (.cells #[.string (txt r.who),.string (txt r.tgt),.string (txt r.att),.int .i64 r.rts,.bool r.alw] 58)
 have hX:=Box5.new w (txt r.who) (txt r.tgt) (txt r.att) r.rts r.alw 58
 have hb2:=below1 (w.alloc (.cells #[.string (txt r.who),.string (txt r.tgt),.string (txt r.att),.int .i64 r.rts,.bool r.alw] 58)) (.cells #[.string (txt q.s),.string (txt q.n),.string (txt q.t),.int .i64 q.right] 70)
 have hY:=Box4.new (w.alloc (.cells #[.string (txt r.who),.string (txt r.tgt),.string (txt r.att),.int .i64 r.rts,.bool r.alw] 58)) (txt q.s) (txt q.n) (txt q.t) q.right 70
 have hX2:=hX.grow hb2
 have hbb:=hb1.trans (hb2.mono hb1.size)
 have hT2:=(hT.below hb1).below hb2
 obtain⟨w1,hw1⟩:∃w1,w.alloc (.cells #[.string (txt r.who),.string (txt r.tgt),.string (txt r.att),.int .i64 r.rts,.bool r.alw] 58)=w1:=⟨_,rfl⟩
 have hs1:w1.heap.size=w.heap.size+1:=by rw[←hw1];simp
 rw[hw1] at hY hX2 hbb hT2
 rw[hs1] at hY
 obtain⟨w2,hw2⟩:∃w2,w1.alloc (.cells #[.string (txt q.s),.string (txt q.n),.string (txt q.t),.int .i64 q.right] 70)=w2:=⟨_,rfl⟩
 rw[hw2] at hY hX2 hbb hT2
 obtain⟨h,hh⟩:∃h,w.heap.size=h:=⟨_,rfl⟩
 obtain⟨k,hk⟩:∃k,w.heap.size+1=k:=⟨_,rfl⟩
 rw[hh] at hX2
 rw[hk] at hY
 have HX:=hide hX2
 have HY:=hide hY
 have HB:=hide hbb
 have HT:=hide hT2
 have Hw1:=hide hw1
 have Hw2:=hide hw2
 have Hs1:=hide hs1
 have Hh:=hide hh
 have Hk:=hide hk
 clear hb1 hX hb2 hY hX2 hbb hT2 hw1 hs1 hw2 hh hk hT
 clear hr hq
 have q0:=toeq q.s []
 have q0':((txt q.s).toList !=[])= !(q.s==[]):=by unfold bne;rw[q0]
 have p1:=toeq r.who [42]
 have p2:=toeq r.who [45]
 have p3:=toeq r.who [61]
 obtain⟨kb,hkb⟩:∃kb,(q.s==[])=kb:=⟨_,rfl⟩
 rw[hkb] at q0 q0'
 by_cases h1:r.who=[42]
 ·rw [show isV r.who q.s q.n=true by rw[h1];exact isV_any]
  rw[show (r.who==[42])=true by rw[h1];rfl] at p1
  clear h1 hkb p2 p3 HU HTr
  generalize txt r.who=SW at *
  generalize txt r.tgt=ST at *
  generalize txt r.att=SA at *
  generalize r.rts=x at *
  generalize r.alw=al at *
  generalize txt q.s=QS at *
  generalize txt q.n=QN at *
  generalize txt q.t=QT at *
  generalize q.right=z at *
  cases kb
  all_goals
   go_enter Tryz.func63,Tryz.ntmps63
   go_upto_region 1 with fail
   rw[Hw1.out,Hw2.out]
   try rw[Hs1.out]
   rw[Hk.out,Hh.out]
   obtain⟨x0,x1,x2,x3,x4,x5⟩:=HX.out
   obtain⟨y0,y1,y2,y3,y4⟩:=HY.out
   go_wp2
   go_ret
   exact⟨rfl,HB.out⟩
 rw[show (r.who==[42])=false by simpa using h1] at p1
 by_cases h2:r.who=[45]
 ·rw [show isV r.who q.s q.n=kb by rw[h2,isV_none];exact hkb]
  rw[show (r.who==[45])=true by rw[h2];rfl] at p2
  clear h1 h2 hkb p3 HU HTr
  generalize txt r.who=SW at *
  generalize txt r.tgt=ST at *
  generalize txt r.att=SA at *
  generalize r.rts=x at *
  generalize r.alw=al at *
  generalize txt q.s=QS at *
  generalize txt q.n=QN at *
  generalize txt q.t=QT at *
  generalize q.right=z at *
  cases kb
  all_goals
   go_enter Tryz.func63,Tryz.ntmps63
   go_upto_region 1 with fail
   rw[Hw1.out,Hw2.out]
   try rw[Hs1.out]
   rw[Hk.out,Hh.out]
   obtain⟨x0,x1,x2,x3,x4,x5⟩:=HX.out
   obtain⟨y0,y1,y2,y3,y4⟩:=HY.out
   go_wp2
   go_ret
   exact⟨rfl,HB.out⟩
 rw[show (r.who==[45])=false by simpa using h2] at p2
 by_cases h3:r.who=[61]
 ·have h4:=isV_self (s:=q.s) (n:=q.n)
  rw[hkb] at h4
  have q1:((txt q.s).toList==(txt q.n).toList)=(q.s==q.n):=by rw[txt_bytes,txt_bytes]
  obtain⟨eb,heb⟩:∃eb,(q.s==q.n)=eb:=⟨_,rfl⟩
  rw[heb] at q1 h4
  rw[show isV r.who q.s q.n=(!kb&&eb) by rw[h3];exact h4]
  rw[show (r.who==[61])=true by rw[h3];rfl] at p3
  clear h1 h2 h3 h4 heb hkb HU HTr
  generalize txt r.who=SW at *
  generalize txt r.tgt=ST at *
  generalize txt r.att=SA at *
  generalize r.rts=x at *
  generalize r.alw=al at *
  generalize txt q.s=QS at *
  generalize txt q.n=QN at *
  generalize txt q.t=QT at *
  generalize q.right=z at *
  cases kb
  all_goals cases eb
  all_goals
   go_enter Tryz.func63,Tryz.ntmps63
   go_upto_region 1 with fail
   rw[Hw1.out,Hw2.out]
   try rw[Hs1.out]
   rw[Hk.out,Hh.out]
   obtain⟨x0,x1,x2,x3,x4,x5⟩:=HX.out
   obtain⟨y0,y1,y2,y3,y4⟩:=HY.out
   go_wp2
   go_ret
   exact⟨rfl,HB.out⟩
 rw[show (r.who==[61])=false by simpa using h3] at p3
 rw[isV_else h1 h2 h3,hkb]
 generalize underV q.s (trimAt r.who)=ub at *
 generalize txt (trimAt r.who)=TR at *
 clear h1 h2 h3 hkb
 generalize txt r.who=SW at *
 generalize txt r.tgt=ST at *
 generalize txt r.att=SA at *
 generalize r.rts=x at *
 generalize r.alw=al at *
 generalize txt q.s=QS at *
 generalize txt q.n=QN at *
 generalize txt q.t=QT at *
 generalize q.right=z at *
 cases kb with
 | false=>
  rw[Bool.not_false] at q0'
  go_enter Tryz.func63,Tryz.ntmps63
  go_upto_region 1 with fail
  rw[Hw1.out,Hw2.out]
  try rw[Hs1.out]
  rw[Hk.out,Hh.out]
  obtain⟨x0,x1,x2,x3,x4,x5⟩:=HX.out
  obtain⟨y0,y1,y2,y3,y4⟩:=HY.out
  go_wp2_with fail
  refine grow_begin (by kernel_rfl) ?_
  have hdr:Below w2.heap.size w2 w2.drew:=(Below.refl _ _).drew
  have hsd:w2.drew.heap.size=w2.heap.size:=rfl
  have xd1:=(hdr.cell (p:=⟨h,0,none⟩) x0).trans x1
  have yd1:=(hdr.cell (p:=⟨k,0,none⟩) y0).trans y1
  rw[←hsd] at x0 y0
  have HBd:=hide (HB.out.trans (hdr.mono HB.out.size))
  have HTd:=hide (HT.out.below hdr)
  clear hdr hsd x1 x2 x3 x4 x5 y1 y2 y3 y4 HB HT
  generalize w2.drew=wd at *
  refine grow_take 0 (some 27) (v:=?vr0) rfl rfl (by kernel_rfl) (by kernel_rfl) (by kernel_rfl) (fun _ _ _ h=>h) (by rfl) (fun W hW=>?yr0) ?_
  case yr0=>
   go_simp<;>with_reducible rfl
  simp only[Act.put,List.setIfInBounds_toArray,List.set_cons_zero,List.set_cons_succ]
  refine grow_take 1 (some 28) (v:=?vr1) rfl rfl (by kernel_rfl) (by kernel_rfl) (by kernel_rfl) (fun _ _ _ h=>h) (by rfl) (fun W hW=>?yr1) ?_
  case yr1=>
   go_simp<;>with_reducible rfl
  simp only[Act.put,List.setIfInBounds_toArray,List.set_cons_zero,List.set_cons_succ]
  refine grow_take 2 (some 29) (v:=?vr2) rfl rfl (by kernel_rfl) (by kernel_rfl) (by kernel_rfl) (fun _ _ _ h=>h) (by rfl) (fun W hW=>?yr2) ?_
  case yr2=>
   go_simp<;>with_reducible rfl
  simp only[Act.put,List.setIfInBounds_toArray,List.set_cons_zero,List.set_cons_succ]
  refine grow_take 3 (some 30) (v:=?vr3) rfl rfl (by kernel_rfl) (by kernel_rfl) (by kernel_rfl) (fun _ _ _ h=>h) (by rfl) (fun W hW=>?yr3) ?_
  case yr3=>
   have h1:=(hW.cell (p:=⟨k,0,none⟩) y0).trans yd1
   go_simp<;>with_reducible rfl
  simp only[Act.put,List.setIfInBounds_toArray,List.set_cons_zero,List.set_cons_succ]
  refine grow_take 4 (some 31) (v:=?vr4) rfl rfl (by kernel_rfl) (by kernel_rfl) (by kernel_rfl) (fun _ _ _ h=>h) (by rfl) (fun W hW=>?yr4) ?_
  case yr4=>
   go_simp<;>with_reducible rfl
  simp only[Act.put,List.setIfInBounds_toArray,List.set_cons_zero,List.set_cons_succ]
  refine grow_take 5 (some 32) (v:=?vr5) rfl rfl (by kernel_rfl) (by kernel_rfl) (by kernel_rfl) (fun _ _ _ h=>h) (by rfl) (fun W hW=>?yr5) ?_
  case yr5=>
   have h1:=(hW.cell (p:=⟨h,0,none⟩) x0).trans xd1
   go_simp<;>with_reducible rfl
  simp only[Act.put,List.setIfInBounds_toArray,List.set_cons_zero,List.set_cons_succ]
  refine grow_only 6 rfl (by kernel_rfl) (fun K hK=>?_)
  go_simp
  refine (HTr.out _).mono ?_
  rintro e w5 ⟨rfl,hw5⟩
  obtain rfl:=hw5.symm
  refine hK.out _ _ (Below.refl _ _) ?_
  clear hK K hw5
  try simp only[Act.put,List.setIfInBounds_toArray,List.set_cons_zero,List.set_cons_succ]
  refine grow_only 7 rfl (by kernel_rfl) (fun K hK=>?_)
  go_simp
  refine (HU.out _ HTd.out).mono ?_
  rintro e w6 ⟨rfl,hb6⟩
  refine hK.out _ _ hb6 ?_
  have HB6:=hide (HBd.out.trans (hb6.mono HBd.out.size))
  clear hK K hb6 HBd
  try simp only[Act.put,List.setIfInBounds_toArray,List.set_cons_zero,List.set_cons_succ]
  refine grow_take 8 (some 35) (v:=?vr8) rfl rfl (by kernel_rfl) (by kernel_rfl) (by kernel_rfl) (fun _ _ _ h=>h) (by rfl) (fun W hW=>?yr8) ?_
  case yr8=>
   go_simp<;>with_reducible rfl
  simp only[Act.put,List.setIfInBounds_toArray,List.set_cons_zero,List.set_cons_succ]
  refine grow_take 9 (some 4) (v:=?vr9) rfl rfl (by kernel_rfl) (by kernel_rfl) (by kernel_rfl) (fun _ _ _ h=>h) (by rfl) (fun W hW=>?yr9) ?_
  case yr9=>
   go_simp<;>with_reducible rfl
  simp only[Act.put,List.setIfInBounds_toArray,List.set_cons_zero,List.set_cons_succ]
  refine grow_done (by kernel_rfl) ?_ _
  go_wp2
  go_ret
  exact⟨rfl,HB6.out⟩
 | true=>
  rw[Bool.not_true] at q0'
  clear HU HTr
  go_enter Tryz.func63,Tryz.ntmps63
  go_upto_region 1 with fail
  rw[Hw1.out,Hw2.out]
  try rw[Hs1.out]
  rw[Hk.out,Hh.out]
  obtain⟨x0,x1,x2,x3,x4,x5⟩:=HX.out
  obtain⟨y0,y1,y2,y3,y4⟩:=HY.out
  go_wp2
  go_quiet (fail)
  go_wp2
  go_ret
  exact⟨rfl,Below.drewN HB.out _⟩
theorem about_no {r:Ru} {q:Qn} (h:¬(andI r.rts q.right≠0∧(r.att=[]∨r.att=q.t))):aboutV r q=false:=by
 unfold aboutV
 rw[decide_eq_false h]
 rfl
theorem about_yes {r:Ru} {q:Qn} (h:andI r.rts q.right≠0∧(r.att=[]∨r.att=q.t)):aboutV r q=(isV r.who q.s q.n&&underV q.n r.tgt):=by
 unfold aboutV
 rw[decide_eq_true h]
 rfl
theorem isabout_any (r:Ru) (q:Qn) (hr:r.small) (hq:q.s.length≤1000000) (hn:q.n.length≤1000000) (w:World) (hT:TM w):
  Calls Tryz.prog 35 #[.agg #[.string (txt r.who),.string (txt r.tgt),.string (txt r.att),.int .i64 r.rts,.bool r.alw],.agg #[.string (txt q.s),.string (txt q.n),.string (txt q.t),.int .i64 q.right]] w fun e w'=>e=.returned (.bool (aboutV r q))∧Below w.heap.size w w':=by
 unfold Ru.small at hr
 have HI:=hide (fun w hT=>isof_any r q (by omega) hq w hT)
 have HU:=hide (fun w hT=>punder_text q.n r.tgt hn (by omega) w hT)
 have hb1:=below1 w (.cells #[.string (txt r.who),.string (txt r.tgt),.string (txt r.att),.int .i64 r.rts,.bool r.alw] 58)
 have hX:=Box5.new w (txt r.who) (txt r.tgt) (txt r.att) r.rts r.alw 58
 have hb2:=below1 (w.alloc (.cells #[.string (txt r.who),.string (txt r.tgt),.string (txt r.att),.int .i64 r.rts,.bool r.alw] 58)) (.cells #[.string (txt q.s),.string (txt q.n),.string (txt q.t),.int .i64 q.right] 70)
 have hY:=Box4.new (w.alloc (.cells #[.string (txt r.who),.string (txt r.tgt),.string (txt r.att),.int .i64 r.rts,.bool r.alw] 58)) (txt q.s) (txt q.n) (txt q.t) q.right 70
 have hX2:=hX.grow hb2
 have hbb:=hb1.trans (hb2.mono hb1.size)
 have hT2:=(hT.below hb1).below hb2
 obtain⟨w1,hw1⟩:∃w1,w.alloc (.cells #[.string (txt r.who),.string (txt r.tgt),.string (txt r.att),.int .i64 r.rts,.bool r.alw] 58)=w1:=⟨_,rfl⟩
 have hs1:w1.heap.size=w.heap.size+1:=by rw[←hw1];simp
 rw[hw1] at hY hX2 hbb hT2
 rw[hs1] at hY
 obtain⟨w2,hw2⟩:∃w2,w1.alloc (.cells #[.string (txt q.s),.string (txt q.n),.string (txt q.t),.int .i64 q.right] 70)=w2:=⟨_,rfl⟩
 rw[hw2] at hY hX2 hbb hT2
 obtain⟨h,hh⟩:∃h,w.heap.size=h:=⟨_,rfl⟩
 obtain⟨k,hk⟩:∃k,w.heap.size+1=k:=⟨_,rfl⟩
 rw[hh] at hX2
 rw[hk] at hY
 have HX:=hide hX2
 have HY:=hide hY
 have HB:=hide hbb
 have HT:=hide hT2
 have Hw1:=hide hw1
 have Hw2:=hide hw2
 have Hs1:=hide hs1
 have Hh:=hide hh
 have Hk:=hide hk
 clear hb1 hX hb2 hY hX2 hbb hT2 hw1 hs1 hw2 hh hk hT
 clear hr hq hn
 have q0:=toeq r.att []
 have q0':((txt r.att).toList !=[])= !(r.att==[]):=by unfold bne;rw[q0]
 have q1:((txt r.att).toList==(txt q.t).toList)=(r.att==q.t):=by rw[txt_bytes,txt_bytes]
 have q1':((txt r.att).toList !=(txt q.t).toList)= !(r.att==q.t):=by unfold bne;rw[q1]
 have hab:=@about_no r q
 have haa:=@about_yes r q
 by_cases h0:andI r.rts q.right=0
 ·rw [hab fun h=>h.1 h0]
  have z0:=h0
  unfold andI at z0
  have z1:(IntKind.i64.wrap ((BitVec.ofInt IntKind.i64.bits r.rts&&& BitVec.ofInt IntKind.i64.bits q.right).toNat:Int)==0)=true:=by rw[z0];rfl
  clear hab haa h0 q0 q0' q1 q1' HI HU
  generalize txt r.who=SW at *
  generalize txt r.tgt=ST at *
  generalize txt r.att=SA at *
  generalize r.rts=x at *
  generalize r.alw=al at *
  generalize txt q.s=QS at *
  generalize txt q.n=QN at *
  generalize txt q.t=QT at *
  generalize q.right=z at *
  go_enter Tryz.func35,Tryz.ntmps35
  go_upto_region 1 with fail
  rw[Hw1.out,Hw2.out]
  try rw[Hs1.out]
  rw[Hk.out,Hh.out]
  obtain⟨x0,x1,x2,x3,x4,x5⟩:=HX.out
  obtain⟨y0,y1,y2,y3,y4⟩:=HY.out
  go_wp2
  go_ret
  exact⟨rfl,HB.out⟩
 have z0:=h0
 unfold andI at z0
 have z1:(IntKind.i64.wrap ((BitVec.ofInt IntKind.i64.bits r.rts&&& BitVec.ofInt IntKind.i64.bits q.right).toNat:Int)==0)=false:=beq_false_of_ne z0
 by_cases ha:r.att=[]∨r.att=q.t
 ·rw [haa ⟨h0,ha⟩]
  obtain⟨b0,hb0⟩:∃b0,(r.att==[])=b0:=⟨_,rfl⟩
  obtain⟨b1,hb1⟩:∃b1,(r.att==q.t)=b1:=⟨_,rfl⟩
  have hor:b0=true∨b1=true:=by
   rcases ha with h | h
   ·left;rw[←hb0,h];rfl
   ·right;rw[←hb1,h];simp
  rw[hb0] at q0 q0'
  rw[hb1] at q1 q1'
  generalize isV r.who q.s q.n=ib at *
  generalize underV q.n r.tgt=ub at *
  clear hab haa h0 ha hb0 hb1
  generalize txt r.who=SW at *
  generalize txt r.tgt=ST at *
  generalize txt r.att=SA at *
  generalize r.rts=x at *
  generalize r.alw=al at *
  generalize txt q.s=QS at *
  generalize txt q.n=QN at *
  generalize txt q.t=QT at *
  generalize q.right=z at *
  have hor':(b0=true∧b1=true)∨(b0=true∧b1=false)∨(b0=false∧b1=true):=by cases b0<;>cases b1<;>simp_all
  clear hor
  rcases hor' with⟨rfl,rfl⟩ | ⟨rfl,rfl⟩ | ⟨rfl,rfl⟩
  all_goals cases ib
  all_goals
   go_enter Tryz.func35,Tryz.ntmps35
   go_upto_region 1 with fail
   rw[Hw1.out,Hw2.out]
   try rw[Hs1.out]
   rw[Hk.out,Hh.out]
   obtain⟨x0,x1,x2,x3,x4,x5⟩:=HX.out
   obtain⟨y0,y1,y2,y3,y4⟩:=HY.out
   go_wp2_with (go_at_call 63;fail)
   refine (HI.out _ HT.out).mono ?_
   rintro e w3 ⟨rfl,hb3⟩
   have yd2:=(hb3.cell (p:=⟨k,1,none⟩) y0).trans y2
   have xd2:=(hb3.cell (p:=⟨h,1,none⟩) x0).trans x2
   have HB3:=hide (HB.out.trans (hb3.mono HB.out.size))
   have HT3:=hide (HT.out.below hb3)
   clear hb3 HB HT HI x0 x1 x2 x3 x4 x5 y0 y1 y2 y3 y4
   first
    |(go_wp2_with (go_at_call 42;fail)
      refine (HU.out _ HT3.out).mono ?_
      rintro e w4 ⟨rfl,hb4⟩
      have HB4:=hide (HB3.out.trans (hb4.mono HB3.out.size))
      clear hb4 HB3 HT3 HU
      go_wp2
      go_ret
      exact⟨rfl,HB4.out⟩)
    |(go_wp2
      go_ret
      exact⟨rfl,HB3.out⟩)
 ·rw [hab fun h=>ha h.2]
  rw[show (r.att==[])=false by simpa using fun h=>ha (Or.inl h)] at q0 q0'
  rw[show (r.att==q.t)=false by simpa using fun h=>ha (Or.inr h)] at q1 q1'
  clear hab haa h0 ha HI HU
  generalize txt r.who=SW at *
  generalize txt r.tgt=ST at *
  generalize txt r.att=SA at *
  generalize r.rts=x at *
  generalize r.alw=al at *
  generalize txt q.s=QS at *
  generalize txt q.n=QN at *
  generalize txt q.t=QT at *
  generalize q.right=z at *
  go_enter Tryz.func35,Tryz.ntmps35
  go_upto_region 1 with fail
  rw[Hw1.out,Hw2.out]
  try rw[Hs1.out]
  rw[Hk.out,Hh.out]
  obtain⟨x0,x1,x2,x3,x4,x5⟩:=HX.out
  obtain⟨y0,y1,y2,y3,y4⟩:=HY.out
  go_wp2
  go_ret
  exact⟨rfl,HB.out⟩
end Go.Proofs.YtjjepcnijmlliaaGreatDoor
namespace Go.Proofs.YtjjepcnijmlliaaGreatDoor
open Go.RowKit
set_option linter.unusedVariables false
theorem agg4 {A B C A' B' C':ByteArray} {r r':Int} (h:Value.agg #[.string A,.string B,.string C,.int .i64 r]=.agg #[.string A',.string B',.string C',.int .i64 r']):A=A'∧B=B'∧C=C'∧r=r':=by
 injection h with h
 have h:=congrArg Array.toList h
 simp only[List.cons.injEq,Value.string.injEq,Value.int.injEq,and_true,true_and] at h
 exact h
theorem norm_short (l:List UInt8):(normT l).1.length≤1000:=by
 cases pt l with
 | no e he h=>rw[norm_no' h];simp
 | ok T ho h=>rw[norm_yes' h];exact ho.len
theorem first_drop {L:List Ru} {i:Nat} {r:Ru} (h:L[i]?=some r) (q:Qn):firstV (L.drop i) q=if aboutV r q=true then r.alw else firstV (L.drop (i+1)) q:=by
 have hi:=(List.getElem?_eq_some_iff.1 h)
 obtain⟨h1,h2⟩:=hi
 rw[List.drop_eq_getElem_cons h1,h2]
 rfl
theorem decide_any (L:List Ru) (s:List UInt8) (right:Int) (n a:List UInt8) (w:World) (A:Option Addr) (m c:Nat) (hA:Has w w.heap.size 5 A m (rusC L)) (hsm:∀r∈L,r.small) (hs:s.length≤1000000) (hn:n.length≤1000000) (hm:m≤1000000) (hT:TM w):
  Calls Tryz.prog 18 #[.slice A m c,.string (txt s),.int .i64 right,.string (txt n),.string (txt a)] w fun e w'=>e=.returned (.bool (decideV L s right n a))∧Below w.heap.size w w':=by
 have hK:=fun w hT=>ask_any s right n a hs hn w hT
 have hF:=fun w hA hT=>rusformed_any L w A m c hA hsm hm hT
 have hml:=hA.rules_n
 by_cases hP:AskP s right n a
 ·by_cases hL:AllP L
  ·rw [decide_yes hP hL]
   rw[Tr_yes hL] at hF
   have h1:=norm_short s
   have h2:=norm_short n
   have hq1:(askV s right n a).s.length≤1000000:=by show (normT s).1.length≤_;omega
   have hq2:(askV s right n a).n.length≤1000000:=by show (normT n).1.length≤_;omega
   have HAb:=hide (fun r (hr:r∈L) w hT=>isabout_any r (askV s right n a) (hsm r hr) hq1 hq2 w hT)
   obtain⟨D,hD⟩:∃D,firstV L (askV s right n a)=D:=⟨_,rfl⟩
   rw[hD]
   have HD:=hide hD
   have HML:=hide hml
   have HK:=hide (hK w hT)
   have HF:=hide hF
   have HP:=hide hP
   have HA:=hide hA
   have HT:=hide hT
   have Hm:=hide hm
   clear hK hF hA hs hn hP hL h1 h2 hq1 hq2 hD hT hml hsm
   obtain⟨q,hq⟩:∃q,askV s right n a=q:=⟨_,rfl⟩
   rw[hq] at HAb HD
   have Hq:=hide hq
   clear hq
   generalize txt s=S at *
   generalize txt n=U at *
   generalize txt a=V at *
   go_enter Tryz.func18,Tryz.ntmps18
   go_wp2_with (go_at_call 33;fail)
   refine HK.out.mono ?_
   rintro e w1 hpost
   obtain⟨QS,QN,QT,z,ok,rfl,hyes,_,hb1⟩:=hpost.out
   obtain⟨rfl,hv⟩:=hyes HP.out
   rw[Hq.out] at hv
   obtain⟨rfl,rfl,rfl,rfl⟩:=agg4 hv
   clear Hq
   have hb2:=below1 w1 (.cells #[.string (txt q.s),.string (txt q.n),.string (txt q.t),.int .i64 q.right] 70)
   have hY:=Box4.new w1 (txt q.s) (txt q.n) (txt q.t) q.right 70
   have HB2:=hide (hb1.trans (hb2.mono hb1.size))
   have HT2:=hide ((HT.out.below hb1).below hb2)
   have HA2:=hide ((HA.out.below HB2.out).upto HB2.out.size)
   clear hpost hyes hv hb1 HK hb2
   have HAb':Hid (∀r∈L,∀w,TM w→Calls Tryz.prog 35 #[.agg #[.string (txt r.who),.string (txt r.tgt),.string (txt r.att),.int .i64 r.rts,.bool r.alw],.agg #[.string (txt q.s),.string (txt q.n),.string (txt q.t),.int .i64 q.right]] w fun e w'=>e=.returned (.bool (aboutV r q))∧Below w.heap.size w w'):=HAb
   clear HAb HP
   generalize txt q.s=QS at *
   generalize txt q.n=QN at *
   generalize txt q.t=QT at *
   generalize q.right=z at *
   go_wp2_with (go_at_call 34;fail)
   refine (HF.out _ HA2.out HT2.out).mono ?_
   rintro e w3 ⟨rfl,hb3⟩
   have HY3:=hide (hY.grow hb3)
   have HB3:=hide (HB2.out.trans (hb3.mono HB2.out.size))
   have HT3:=hide (HT2.out.below hb3)
   have HA3:=hide ((HA2.out.below hb3).upto hb3.size)
   clear hY hb3 HB2 HT2 HA2 HF HA HT
   generalize w1.heap.size=hq at *
   go_wp2
   go_loopg [32] m (fun k s32 wx=>∃i:Nat,i+k=m∧s32=.int .i64 (i:Int)∧Hid (firstV (L.drop i) q=D)∧Below w3.heap.size w3 wx)
   case atStart=>exact⟨0,by omega,rfl,hide (by rw[List.drop_zero];exact HD.out),Below.refl _ _⟩
   case round=>
    obtain⟨i,hig,rfl,hpre,hbr⟩:=hrel
    cases gk with
    | zero=>
     obtain rfl:i=m:=by omega
     have hiz:¬((i:Int)<(i:Int)):=by omega
     have hp:=hpre.out
     rw[List.drop_eq_nil_of_le (by rw[HML.out];exact Nat.le_refl _)] at hp
     have hD0:Hid (D=false):=hide hp.symm
     have HE:=hide (HB3.out.trans (hbr.mono HB3.out.size))
     clear hp hpre HAb' HY3 HB3 HT3 HA3 HD HML hbr
     go_wp2
     go_ret
     exact⟨by rw[hD0.out];rfl,HE.out⟩
    | succ k=>
     have hi:i<m:=by omega
     have hiz:(i:Int)<(m:Int):=by omega
     obtain⟨r,hr⟩:∃r,L[i]?=some r:=⟨_,List.getElem?_eq_getElem (by rw[←HML.out];exact hi)⟩
     obtain⟨g,o,hAe,hg,hat⟩:=HA3.out.rule (fun h=>by rw[h] at hr;simp at hr)
     subst hAe
     obtain⟨c0,c1,c2,c3,c4⟩:=(hat i r hr).below hg hbr
     obtain⟨y5,y0,y1,y2,y3⟩:=HY3.out.below HY3.out.lt hbr
     have hcall:=HAb'.out r (List.mem_of_getElem? hr)
     have hfd:=first_drop hr q
     rw[hpre.out] at hfd
     have hbx:=below1 wr (.cells #[.string (txt r.who),.string (txt r.tgt),.string (txt r.att),.int .i64 r.rts,.bool r.alw] 58)
     obtain⟨x5,x0,x1,x2,x3,x4⟩:=Box5.new wr (txt r.who) (txt r.tgt) (txt r.att) r.rts r.alw 58
     have v0:=(hbx.cell (p:=⟨hq,0,none⟩) y5).trans y0
     have v1:=(hbx.cell (p:=⟨hq,1,none⟩) y5).trans y1
     have v2:=(hbx.cell (p:=⟨hq,2,none⟩) y5).trans y2
     have v3:=(hbx.cell (p:=⟨hq,3,none⟩) y5).trans y3
     have hbr1:=hbr.trans (hbx.mono hbr.size)
     have hTr:=HT3.out.below hbr1
     have HX5:=hide x5
     obtain⟨ab,hab⟩:∃ab,aboutV r q=ab:=⟨_,rfl⟩
     rw[hab] at hcall hfd
     have Hfd:=hide hfd
     have Hr:=hide hr
     clear hat hr hab hpre hfd hbx y0 y1 y2 y3 y5 x5
     cases ab with
     | true=>
      generalize txt r.who=SW at *
      generalize txt r.tgt=ST at *
      generalize txt r.att=SA at *
      generalize r.rts=x at *
      have hal:=Hfd.out
      rw[if_pos rfl] at hal
      have Hal:=hide hal
      clear hal Hfd
      generalize r.alw=al at *
      go_wp2_with (go_at_call 35;fail)
      refine (hcall _ hTr).mono ?_
      rintro e w5 ⟨rfl,hb5⟩
      have d4:=(hb5.cell (p:=⟨wr.heap.size,4,none⟩) HX5.out).trans x4
      have HE:=hide (HB3.out.trans ((hbr1.trans (hb5.mono hbr1.size)).mono HB3.out.size))
      clear hcall hTr hb5 hbr1 hbr c0 c1 c2 c3 c4 x0 x1 x2 x3 x4 v0 v1 v2 v3 HX5 HB3
      go_wp2
      go_ret
      exact⟨by rw[Hal.out];rfl,HE.out⟩
     | false=>
      have hnx:=Hfd.out
      rw[if_neg (by simp)] at hnx
      have Hnx:=hide hnx.symm
      clear hnx Hfd
      generalize txt r.who=SW at *
      generalize txt r.tgt=ST at *
      generalize txt r.att=SA at *
      generalize r.rts=x at *
      generalize r.alw=al at *
      go_wp2_with (go_at_call 35;fail)
      refine (hcall _ hTr).mono ?_
      rintro e w5 ⟨rfl,hb5⟩
      have hbn:=hbr1.trans (hb5.mono hbr1.size)
      clear hcall hTr hb5 hbr1 hbr c0 c1 c2 c3 c4 x0 x1 x2 x3 x4 v0 v1 v2 v3 HX5
      go_wp2
      go_roundg k
      case measure=>omega
      case rel=>exact⟨i+1,by omega,by go_num,Hnx,hbn⟩
  ·rw [decide_no fun h=>hL h.2]
   rw[Tr_no hL] at hF
   have HK:=hide (hK w hT)
   have HF:=hide hF
   have HA:=hide hA
   have HT:=hide hT
   have HP:=hide hP
   clear hK hF hA hs hn hP hL hT hml hsm
   generalize txt s=S at *
   generalize txt n=U at *
   generalize txt a=V at *
   go_enter Tryz.func18,Tryz.ntmps18
   go_wp2_with (go_at_call 33;fail)
   refine HK.out.mono ?_
   rintro e w1 hpost
   obtain⟨QS,QN,QT,z,ok,rfl,hyes,_,hb1⟩:=hpost.out
   obtain⟨rfl,_⟩:=hyes HP.out
   have hb2:=below1 w1 (.cells #[.string QS,.string QN,.string QT,.int .i64 z] 70)
   have HB2:=hide (hb1.trans (hb2.mono hb1.size))
   have HT2:=hide ((HT.out.below hb1).below hb2)
   have HA2:=hide ((HA.out.below HB2.out).upto HB2.out.size)
   clear hpost hyes hb1 HK hb2 HP HA HT
   go_wp2_with (go_at_call 34;fail)
   refine (HF.out _ HA2.out HT2.out).mono ?_
   rintro e w3 ⟨rfl,hb3⟩
   have HB3:=hide (HB2.out.trans (hb3.mono HB2.out.size))
   clear hb3 HB2 HT2 HA2 HF
   go_wp2
   go_ret
   exact⟨rfl,HB3.out⟩
 ·rw [decide_no fun h=>hP h.1]
  have HK:=hide (hK w hT)
  have HP:=hide hP
  clear hK hF hA hs hn hP hT hml hsm
  generalize txt s=S at *
  generalize txt n=U at *
  generalize txt a=V at *
  go_enter Tryz.func18,Tryz.ntmps18
  go_wp2_with (go_at_call 33;fail)
  refine HK.out.mono ?_
  rintro e w1 hpost
  obtain⟨QS,QN,QT,z,ok,rfl,_,hno,hb1⟩:=hpost.out
  obtain rfl:=hno HP.out
  have hb2:=below1 w1 (.cells #[.string QS,.string QN,.string QT,.int .i64 z] 70)
  have HB2:=hide (hb1.trans (hb2.mono hb1.size))
  clear hpost hno hb1 HK hb2 HP
  go_wp2
  go_ret
  exact⟨rfl,HB2.out⟩
end Go.Proofs.YtjjepcnijmlliaaGreatDoor
