/- A row's lift that hands its contract, beside the listed variables, the world's shape: what a library's variable that no list names holds is of its kind. By an AI agent. -/
import Derived.Test.YtadlmhclpaifoaaGreatDoorShaped
import Derived.Test.YtadlmhclpaifoaaGreatDoorOpens
import Derived.HandedShaped
import Derived.Shelf.Vars
import Derived.ProofKit
set_option linter.unusedSimpArgs false
set_option linter.unusedVariables false
set_option maxRecDepth 1000000
namespace Go.Proofs.YtadlmhclpaifoaaGreatDoor
open Go.RowKit Go.Proofs.YtadlmhclpaifoaaGreatDoor.Opens
theorem laid_heap (w w':World) (hh:w.heap=w'.heap) (h:laidMetH Tryz.prog laid w):laidMetH Tryz.prog laid w':=h.of_heap hh
theorem lift_shaped {H:Type} {enc:TypeId × Value->H} {os:Os} {f:FuncId} {fn:Func} {s:ChangeSpec} (started:os.Started)
  (noInit:Tryz.checked.prog.inits.idxOf? f=none) (hfn:Tryz.checked.prog.funcs[f]?=some fn)
  (witness:∃(w:World) (tape:Tape) (i:Input),w.os=os/\(w.forCall tape i).Shaped Tryz.checked.prog/\i.vars=[]/\Input.okWide Tryz.checked.prog (w.forCall tape i) .any w.heap.size f i/\
   ((s.pre enc Tryz.prog fn [] false (w.forCall tape i).memory i.args/\laidMetH Tryz.prog laid (w.forCall tape i).memory)/\sizedMet enc Tryz.prog fn (OpenSpec.ofChange s) false (w.forCall tape i).memory i.args)/\({}:Assume).holds Tryz.checked.prog (lone (Frame.enter Tryz.checked.prog f i.args .normal) [] (w.forCall tape i)))
  (contract:∀(W:World) (base:Nat) (args:Array Value) (ds gs:List (DataW H)) (before:List MemPlace),
   (∀(j:Nat) t v,fn.params[j]?=some t->args[j]?=some v->Value.okWide Tryz.prog W .any base t v)->
   DataW.Whole enc Tryz.prog fn.params.toList s.vars false W args.toList ds gs before->laidMetH Tryz.prog laid W->
   (DataW.weightsEach Tryz.prog (fn.params.toList++s.plain.varTypes Tryz.prog) (ds++gs)).all (·<=reachBytes)=true->W.ShapedOpen Tryz.prog->
   Calls Tryz.prog f args W fun e W'=>∃v,e=.returned v/\s.post enc Tryz.prog fn false true false false W args v W'):
  ReturnsInHanded {} Tryz.checked os f .any (fun w args=>(s.pre enc Tryz.prog fn [] false w args/\laidMetH Tryz.prog laid w)/\sizedMet enc Tryz.prog fn (OpenSpec.ofChange s) false w args) (s.post enc Tryz.prog fn false true false false):=by
 refine returnsInHanded_of_calls own started noInit witness fun w tape i _ shape _ ok pre _=>?_
 obtain⟨_,_,_,g,hg,_,_,_,_,vals⟩:=ok;obtain rfl:g=fn:=Option.some.inj (hg.symm.trans hfn);obtain⟨⟨⟨ds,gs,before,whole,_⟩,hl⟩,hz⟩:=pre;have whole':=DataW.Whole.of_heap (w':=w.forCall tape i) (by rfl) whole;have hl':=laid_heap _ (w.forCall tape i) (by rfl) hl;have run:=contract (w.forCall tape i) w.heap.size i.args ds gs before vals whole' hl' (hz.weights whole) shape;exact run.mono fun e W' ⟨v,he,hp⟩=>by
  subst he;exact ChangeSpec.post_blind hp
end Go.Proofs.YtadlmhclpaifoaaGreatDoor
