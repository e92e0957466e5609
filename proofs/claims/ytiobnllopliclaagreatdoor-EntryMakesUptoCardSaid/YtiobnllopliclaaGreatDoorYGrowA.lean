/- Rows of attributes and entries that grow; appends in a region that draws. By an AI agent. -/
import Derived.Test.YtiobnllopliclaaGreatDoorEY
import Derived.Test.YtiobnllopliclaaGreatDoorGrowB
namespace Go.Proofs.YtiobnllopliclaaGreatDoor
open Go Go.RowKit
set_option linter.unusedVariables false
set_option linter.unusedSimpArgs false
theorem stepE {ops:Array Oper} {o:Oper} {a:Act} {K:Act→World→Prop} {Q:Exit→Act→World→Prop} {E:Prop} (W:World) (t e:TypeId) (z:Value) (size bytes:Nat) (hu:Tryz.prog.underlying t=some (.slice e))
  (hinf:(Tryz.prog.info? e).map (fun i=>(i.zero,i.size,i.bytes))=some (some z,size,bytes)) (hzs:z.cells.size=size) (hsz:0<size) (h32:bytes≤128)
  (d:Option Tmp) (hd:o.dst=d) (hgd:o.guard=none) (s x:Operand) (ho:o.op=.call { callee:=.builtin .append,args:=#[s,x],argTypes:=#[t,t] })
  (base:Nat) (v:Value) (n:Nat) (xs:List Value) (hs:a.eval s=v) (hown:W.ownsRow base e size v n xs)
  (B:Nat) (A:Option Addr) (m c:Nat) (l:List Value) (hx:a.eval x=.slice A m c) (hr:Has W B size A m l) (h1:∀u∈l,u.oneCell'=true)
  (hb:n+m≤2000000) (hbase:base≤W.heap.size)
  (h:∀v' w',w'.ownsRow base e size v' (n+m) (xs++l)→Below base W w'→W.grownBy w' v.ownBlock→(v'.ownBlock=v.ownBlock∨v'.ownBlock=some W.heap.size)→K (a.put d v') w'):
  if Region.wanted o (yielded ops a.tmps)=true then Oper.wp Tryz.prog o a W K Q else E:=by
 subst hd
 obtain⟨i0,hi,hz0,hz1,hz2⟩:=info_parts hinf
 have hbb:(n+m)*bytes≤140737488355328:=Nat.le_trans (Nat.mul_le_mul hb h32) (by omega)
 refine step_app W hgd s x t ho base e i0 z size bytes hu hi hz0 hz1 hz2 hzs hsz v n xs hs hown B A m c l hx hr h1 (by unfold maxLen;omega) hbb hbase ?_
 intro v' w' h1 h2 h3
 exact h v' w' h1 (below_grown hown h2 hbase) h2 h3
theorem appN {ops:Array Oper} {rest:List Oper} {o:Oper} {a:Act} {Q:Exit→Act→World→Prop} (W:World) (t e:TypeId) (z:Value) (size bytes:Nat) (hu:Tryz.prog.underlying t=some (.slice e))
  (hinf:(Tryz.prog.info? e).map (fun i=>(i.zero,i.size,i.bytes))=some (some z,size,bytes)) (hzs:z.cells.size=size) (hsz:0<size) (h32:bytes≤128)
  (hgd:o.guard=none) (s x:Operand) (ho:o.op=.call { callee:=.builtin .append,args:=#[s,x],argTypes:=#[t,t] })
  (base:Nat) (v:Value) (n:Nat) (xs:List Value) (hs:a.eval s=v) (hown:W.ownsRow base e size v n xs)
  (B:Nat) (A:Option Addr) (m c:Nat) (l:List Value) (hx:a.eval x=.slice A m c) (hr:Has W B size A m l) (h1:∀u∈l,u.oneCell'=true)
  (hb:n+m≤2000000) (hbase:base≤W.heap.size)
  (h:∀v' w',w'.ownsRow base e size v' (n+m) (xs++l)→Below base W w'→W.grownBy w' v.ownBlock→(v'.ownBlock=v.ownBlock∨v'.ownBlock=some W.heap.size)→wpList Tryz.prog ops Q rest (a.put o.dst v') w'):
  wpList Tryz.prog ops Q (o::rest) a W:=by
 obtain⟨i0,hi,hz0,hz1,hz2⟩:=info_parts hinf
 have hbb:(n+m)*bytes≤140737488355328:=Nat.le_trans (Nat.mul_le_mul hb h32) (by omega)
 refine wpList_app W hgd s x t ho base e i0 z size bytes hu hi hz0 hz1 hz2 hzs hsz v n xs hs hown B A m c l hx hr h1 (by unfold maxLen;omega) hbb hbase ?_
 intro v' w' h1 h2 h3
 exact h v' w' h1 (below_grown hown h2 hbase) h2 h3
theorem infoEA:(Tryz.prog.info? 52).map (fun i=>(i.zero,i.size,i.bytes))=some (some (.agg #[.string .empty,.slice none 0 0]),2,40):=by kernel_rfl
section
variable {w w' w0:World} {base:Nat} {E:TypeId} {v v':Value} {xs:List Value}
theorem RowA.more {L:List EA} {w4 w5 w7:World} (hR:RowA w4 base E v xs L) (hbase:base≤w4.heap.size) (hb5:Below w4.heap.size w4 w5) {a:EA} {A:Option Addr} {c:Nat} (hc:a.2.length≤c) (hm:c≤maxLen)
  (hH:HasP w5 (NewB w4.heap.size w5.heap.size) 1 A a.2.length (strs a.2)) (C:Obj) (hown:w7.ownsRow base E 2 v' (L.length+1) (xs++[.string (txt a.1),.slice A a.2.length c])) (hg:(w5.alloc C).grownBy w7 v.ownBlock)
  (ht:v'.ownBlock=v.ownBlock∨v'.ownBlock=some (w5.alloc C).heap.size):RowA w7 base E v' (xs++[.string (txt a.1),.slice A a.2.length c]) (L++[a]):=by
 have h6:Below w5.heap.size w5 (w5.alloc C):=(Below.refl _ _).alloc (Nat.le_refl _) C
 refine ((hR.below hb5).alloc C).snoc hc hm (hH.move (fun p hp=>h6.cell hp.2) fun b hb=>?_) hown hg ht
 obtain⟨h1,h2,h3⟩:=new_off hR.own hbase b hb
 exact⟨h1,Nat.lt_of_lt_of_le h2 h6.size,h3⟩
theorem litY (w:World) (u0 u1:Value) (e:TypeId) (h0:u0.oneCell'=true) (h1:u1.oneCell'=true):(w.alloc (.cells #[u0,u1] e)).ownsRow w.heap.size e 2 (.slice (some ⟨w.heap.size,0,none⟩) 1 1) 1 [u0,u1]:=
 World.ownsRow_lit w #[u0,u1] 1 (Nat.le_refl _) (by unfold maxLen;omega) rfl
end
end Go.Proofs.YtiobnllopliclaaGreatDoor
