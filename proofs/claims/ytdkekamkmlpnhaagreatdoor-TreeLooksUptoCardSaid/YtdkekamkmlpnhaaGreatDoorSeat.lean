/- The laws of memory at this seat's own numbers: an append of bytes onto bytes of the call's own, and the text of bytes. -/
import Derived.Test.YtdkekamkmlpnhaaGreatDoorRows
import Derived.Test.YtdkekamkmlpnhaaGreatDoorWords
import Derived.Test.YtdkekamkmlpnhaaGreatDoorGrow
namespace Go.Proofs.YtdkekamkmlpnhaaGreatDoor
open Go.RowKit
theorem info8:(Tryz.prog.info? 5).map (fun i=>(i.zero,i.size,i.bytes))=some (some (.int .u8 0),1,1):=by kernel_rfl
theorem zA0 {base:Nat} {e:TypeId} {size n:Nat} {v:Value} {xs:List Value} {w w':World} (hown:w.ownsRow base e size v n xs) (hg:w.grownBy w' v.ownBlock) (hb:base<=w.heap.size):Below base w w':=
 (Below.refl _ _).grown hg hb (fun g hg'=>(hown.lt g hg').1)
theorem app8 {ops:Array Oper} {rest:List Oper} {o:Oper} {a:Act} {Q:Exit->Act->World->Prop} (W:World) (hgd:o.guard=none) (s x:Operand)
  (ho:o.op=.call { callee:=.builtin .append,args:=#[s,x],argTypes:=#[160,160] })
  (base:Nat) (v:Value) (n:Nat) (xs:List UInt8) (hs:a.eval s=v) (hown:W.ownsRow base 5 1 v n (bys xs))
  (B:Nat) (A:Option Addr) (m c:Nat) (l:List UInt8) (hx:a.eval x=.slice A m c) (hr:Has W B 1 A m (bys l))
  (hb:n+m<=140737488355328) (hbase:base<=W.heap.size)
  (h:∀v' w',w'.ownsRow base 5 1 v' (n+m) (bys (xs++l))->Below base W w'->(v'.ownBlock=v.ownBlock\/v'.ownBlock=some W.heap.size)->wpList Tryz.prog ops Q rest (a.put o.dst v') w'):
  wpList Tryz.prog ops Q (o::rest) a W:=by
 obtain⟨i0,hi,hz0,hz1,hz2⟩:=info_parts info8;refine zCc W hgd s x 160 ho base 5 i0 _ 1 1 Tryz.underlying160 hi hz0 hz1 hz2 rfl (by omega) v n (bys xs) hs hown B A m c (bys l) hx hr (zKv _) (by unfold maxLen;omega) (by omega) hbase ?_;intro v' w' h1 h2 h3;rw[<-zC9] at h1;exact h v' w' h1 (zA0 hown h2 hbase) h3
theorem step8 {ops:Array Oper} {o:Oper} {a:Act} {K:Act->World->Prop} {Q:Exit->Act->World->Prop} {E:Prop} (W:World) (d:Option Tmp) (hd:o.dst=d) (hgd:o.guard=none) (s x:Operand)
  (ho:o.op=.call { callee:=.builtin .append,args:=#[s,x],argTypes:=#[160,160] })
  (base:Nat) (v:Value) (n:Nat) (xs:List UInt8) (hs:a.eval s=v) (hown:W.ownsRow base 5 1 v n (bys xs))
  (B:Nat) (A:Option Addr) (m c:Nat) (l:List UInt8) (hx:a.eval x=.slice A m c) (hr:Has W B 1 A m (bys l))
  (hb:n+m<=140737488355328) (hbase:base<=W.heap.size)
  (h:∀v' w',w'.ownsRow base 5 1 v' (n+m) (bys (xs++l))->Below base W w'->(v'.ownBlock=v.ownBlock\/v'.ownBlock=some W.heap.size)->W.grownBy w' v.ownBlock->K (a.put d v') w'):
  if Region.wanted o (yielded ops a.tmps)=true then Oper.wp Tryz.prog o a W K Q else E:=by
 subst hd;obtain⟨i0,hi,hz0,hz1,hz2⟩:=info_parts info8;refine zM8 W hgd s x 160 ho base 5 i0 _ 1 1 Tryz.underlying160 hi hz0 hz1 hz2 rfl (by omega) v n (bys xs) hs hown B A m c (bys l) hx hr (zKv _) (by unfold maxLen;omega) (by omega) hbase ?_;intro v' w' h1 h2 h3;rw[<-zC9] at h1;exact h v' w' h1 (zA0 hown h2 hbase) h3 h2
theorem txt8 (W:World) {B:Nat} {A:Option Addr} {n:Nat} (c:Nat) {l:List UInt8} (h:Has W B 1 A n (bys l)):
  (convert 160 9 (.slice A n c)).run Tryz.prog W=.ok (.string (txt l)) W:=
 zSj W h _ _ 5 Tryz.underlying160 Tryz.underlying5 Tryz.underlying9
theorem one8 (w:World) (b:UInt8):(w.alloc (.cells #[c8 b] 5)).ownsRow w.heap.size 5 1 (.slice (some ⟨w.heap.size,0,none⟩) 1 1) 1 (bys [b]):=
 zDu w #[c8 b] 5 1 (by unfold maxLen;omega) rfl
end Go.Proofs.YtdkekamkmlpnhaaGreatDoor
