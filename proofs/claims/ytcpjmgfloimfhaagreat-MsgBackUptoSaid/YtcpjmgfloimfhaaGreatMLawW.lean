/- Single laws that the laws of messages share. By an AI agent. -/
import Derived.Test.YtcpjmgfloimfhaaGreatMSmall
set_option linter.unusedSimpArgs false
set_option linter.unusedVariables false
namespace Go.Proofs.YtcpjmgfloimfhaaGreat
open Go.RowKit
theorem repW_below {α:Type} {E:Elem α} {w w':World} {L:List α} {v:Value} (h:repW E w (inB w) L v) (hb:Below w.heap.size w w'):repW E w' (inB w') L v:=by
 obtain⟨A,c,xs,e,hl,h1,h2⟩:=h
 exact⟨A,c,xs,e,hl,h1.move (fun p hp=>hb.cell (by exact hp)) (fun k hk=>Nat.lt_of_lt_of_le hk hb.size),h2.move (fun p hp=>hb.cell (by exact hp)) (fun k hk=>Nat.lt_of_lt_of_le hk hb.size)⟩
theorem MWide.below {w w':World} {m:MT} {f0 f1 f2 f3 f4 f5 f6 va vl vc vr vk:Value} (h:MWide w m f0 f1 f2 f3 f4 f5 f6 va vl vc vr vk) (hb:Below w.heap.size w w'):MWide w' m f0 f1 f2 f3 f4 f5 f6 va vl vc vr vk:=
 ⟨h.filt.grow hb,repW_below h.attrs hb,repW_below h.lst hb,repW_below h.chs hb,repW_below h.refs hb,repW_below h.ctls hb⟩
theorem loadGR {ops:Array Oper} {rest:List Oper} {op:Oper} {a:Act} {w:World} {Q:Exit->Act->World->Prop} (hw:Region.wanted op (yielded ops a.tmps)=true) (x:Operand) (ho:op.op=.load 30 x)
  (b:Nat) (hx:a.eval x=.pointer (some ⟨b,0,none⟩)) (cs:List Value) (hc:Blk w b cs) (hn:cs.length=32)
  (h:wpList Tryz.prog ops Q rest (a.put op.dst (.agg cs.toArray)) w):wpList Tryz.prog ops Q (op::rest) a w:=
 wpList_step fun K hK=>by
  rw[if_pos hw]
  exact wp_load_mid 30 x ho b 0 hx cs _ hc.range Tryz.underlying30 rfl (by rw[hn];kernel_rfl) (hK _ _ h)
theorem wee_of_smallM {m:MT} (h:smallM m=true):m.filt.wee:=by
 unfold smallM FT.smallB at h
 simp only[Bool.and_eq_true,decide_eq_true_eq] at h
 exact FT.wee_of_small h.2
theorem few_of_smallM {m:MT} (h:smallM m=true):m.few:=by
 unfold smallM at h
 simp only[Bool.and_eq_true,decide_eq_true_eq] at h
 exact few_of h.1
end Go.Proofs.YtcpjmgfloimfhaaGreat
