/- 'EntryIncrements': whatever the input, in a memory in which the library's listed tables hold what the program's text lays, the law answers true and leaves its arguments as they were; and the list is tied to the program's text. -/
import Derived.Test.YtadlmhclpaifoaaGreatDoorLaid
import Derived.Test.YtadlmhclpaifoaaGreatDoorOpens
import Derived.Test.YtadlmhclpaifoaaGreatDoorTie
import Derived.Test.YtadlmhclpaifoaaGreatDoorCards
import Derived.Test.YtadlmhclpaifoaaGreatDoorDLawIncs
import Derived.Test.YtadlmhclpaifoaaGreatDoorIS
set_option linter.unusedSimpArgs false
set_option linter.unusedVariables false
set_option maxRecDepth 1000000
set_option maxHeartbeats 64000000
namespace Go.Proofs.YtadlmhclpaifoaaGreatDoor.entryIncrements
open Go.ChangeShapes Go.WideShapes Go.ChangeAt Go.RowKit Go.Proofs.YtadlmhclpaifoaaGreatDoor.Opens
open Go.ChangeMaps (open_string shut_string)
theorem contract (H:Type) (enc:TypeId × Value->H) (W:World) (base:Nat) (args:Array Value) (ds gs:List (DataW H)) (before:List MemPlace)
  (hval0:∀(j:Nat) t v,Tryz.f8.params[j]?=some t->args[j]?=some v->Value.okWide Tryz.prog W .any base t v)
  (hW:DataW.Whole enc Tryz.prog Tryz.f8.params.toList Rows.entryIncrementsSpec.vars false W args.toList ds gs before) (hL:laidMetH Tryz.prog laid W) (hsh:W.ShapedOpen Tryz.prog)
  (hsz0:(DataW.weightsEach Tryz.prog (Tryz.f8.params.toList++Rows.entryIncrementsSpec.plain.varTypes Tryz.prog) (ds++gs)).all (·<=reachBytes)=true):
  Calls Tryz.prog 8 args W fun e W'=>∃v,e=.returned v/\Rows.entryIncrementsSpec.post enc Tryz.prog Tryz.f8 false true false false W args v W':=by
 have hL0:laidMet Tryz.prog laid W:=by rw[MakeChecks.laidMetH_plain _ _ _ (by kernel_rfl)] at hL;exact hL
 have hT:TT W:=⟨zDi hL0,zC6 hL0⟩;have hM:Mx W:=⟨zDm hsh⟩;have hTM:TM W:=⟨hT,hM⟩;have hval:=hval0;have hW':=hW;obtain⟨p,q,hA0,hV,rfl,hfz,hnd⟩:=hW;have hA:DataW.TrodAll enc Tryz.prog W 0 (fun _=>true) true Tryz.f8.params.toList args.toList ds p:=hA0;have hsz:=hsz0;rw[Tryz.params8] at hA hval hsz;obtain⟨v0,vs0,d0,ds0,p0,q0,hargs,rfl,rfl,h0,r0⟩:=trodAll_cons hA;obtain⟨v1,vs1,d1,ds1,p1,q1,rfl,rfl,rfl,h1,r1⟩:=trodAll_cons r0;obtain⟨rfl,rfl,rfl⟩:=trodAll_nil r1;obtain rfl:args=#[v0,v1]:=by cases args;simp_all
 obtain⟨rfl,rfl⟩:=trodVars_none hV;obtain⟨x0,rfl,rfl,rfl,wf0⟩:=open_int Tryz.underlying2 (hval 0 2 v0 rfl rfl) h0;obtain⟨x1,rfl,rfl,rfl,wf1⟩:=open_int Tryz.underlying2 (hval 1 2 v1 rfl rfl) h1;clear hA0 hval0 hL hL0 hsz0 hsz;refine (incs_law x0 x1 W wf0 wf1 hTM).mono fun e W' ⟨he,bel⟩=>?_
 subst he;exact⟨_,rfl,_,_,_,[],_,[],hW',trodAll_mk1 (shut_bool Tryz.underlying4 _),(trodAll_cons_mk (shut_int Tryz.underlying2 wf0) (trodAll_cons_mk (shut_int Tryz.underlying2 wf1) trodAll_mk0)),rfl,bel.frame _,fun h=>by cases h⟩
theorem lifted (os:Os) (started:os.Started) (H:Type) (enc:TypeId × Value->H):
  ReturnsInHanded {} Tryz.checked os 8 .any (fun w args=>(Rows.entryIncrementsSpec.pre enc Tryz.prog Tryz.f8 [] false w args/\laidMetH Tryz.prog laid w)/\sizedMet enc Tryz.prog Tryz.f8 (OpenSpec.ofChange Rows.entryIncrementsSpec) false w args)
   (Rows.entryIncrementsSpec.post enc Tryz.prog Tryz.f8 false true false false):=by
 refine lift_shaped started (by kernel_rfl) Tryz.func8
  (ChangeSpec.witness_shaped (enc:=enc) (C:=Tryz.checked) (os:=os) (X:=fun w _=>laidMetH Tryz.prog laid w) false { World.doorLaid Tryz.prog 400 os with heap:=laidHeap (World.doorLaid Tryz.prog 400 os).heap } #[.int .i64 0,.int .i64 0] 8 rfl (zE0 os _) (by kernel_rfl) (by kernel_rfl) (by kernel_rfl) (zJc os _)) ?_
 intro W base args ds gs before hval hW hL hsz hsh;exact contract H enc W base args ds gs before hval hW hL hsh hsz
theorem closed:joinedFacts Tryz.checked.prog 8 Tryz.f8 Rows.entryIncrementsSpec Rows.entryIncrementsRow=true:=by
 unfold joinedFacts;simp only[Bool.and_eq_true]
 repeat' apply And.intro
 all_goals (as_aux_lemma=>kernel_rfl)
theorem zDy:Rows.EntryIncrementsSaid:=
 OpenClaim.holds_of_wide 8 Tryz.f8 rfl rfl rfl rfl rfl rfl rfl ⟨rfl,rfl,rfl,rfl,rfl⟩ rfl rfl rfl rfl rfl (by as_aux_lemma=>kernel_rfl) Tryz.func8 closed
  (of_decide_eq_true (by kernel_rfl)) (by unfold Func.isWrapper;first | (rw[if_pos (by decide+kernel)];kernel_rfl) | (rw[if_neg (by decide+kernel)];exact⟨rfl,rfl⟩))
  (fun os started H enc _=>lifted os started H enc)
theorem proved:Rows.EntryIncrementsCardSaid:=
 Claim7.holds_tied_plain_at .later [] Rows.entryIncrementsCard.laidKinds true Rows.entryIncrementsCard.stood.harness true
  zDy (fun _ h=>by cases h) (by kernel_rfl) (fun _ h=>by cases h) entryIncrements_row_tie rfl ⟨rfl,rfl⟩ (by kernel_rfl) rfl
  (fun f fn hf hfn=>by
   obtain rfl:f=8:=Option.some.inj ((show Tryz.prog.funcNamed Rows.entryIncrementsRow.func=some 8 by kernel_rfl).symm.trans hf) |>.symm
   obtain rfl:fn=Tryz.f8:=(Option.some.inj (Tryz.func8.symm.trans hfn)).symm
   exact⟨by kernel_rfl,fun j t ht=>by
    rw[Tryz.params8] at ht
    have hm:t∈[2,2]:=(by simpa using Array.mem_of_getElem? ht);have hall:([2,2].all fun u=> !Tryz.prog.wantsStandIn u)=true:=by kernel_rfl
    exact (show Tryz.prog.wantsStandIn t=false by simpa using List.all_eq_true.1 hall t hm)⟩)
  (by kernel_rfl)
end Go.Proofs.YtadlmhclpaifoaaGreatDoor.entryIncrements
