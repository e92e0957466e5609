/- 'EntryModifies': whatever the input, in a memory in which the library's listed tables hold what the program's text lays, the law answers true and leaves its arguments as they were, where what it reads is of bulk at most 1048576; and the list is tied to the program's text. -/
import Derived.Test.YtadlmhclpaifoaaGreatDoorLaid
import Derived.Test.YtadlmhclpaifoaaGreatDoorOpens
import Derived.Test.YtadlmhclpaifoaaGreatDoorTie
import Derived.Test.YtadlmhclpaifoaaGreatDoorCards
import Derived.Test.YtadlmhclpaifoaaGreatDoorDLawModifies
import Derived.Test.YtadlmhclpaifoaaGreatDoorShaped
import Derived.Test.YtadlmhclpaifoaaGreatDoorOpenEnts
import Derived.Test.YtadlmhclpaifoaaGreatDoorOpenChgs
import Derived.Deep.DeepHandedRow
set_option linter.unusedSimpArgs false
set_option linter.unusedVariables false
set_option maxRecDepth 1000000
set_option maxHeartbeats 64000000
namespace Go.Proofs.YtadlmhclpaifoaaGreatDoor.entryModifiesUpto
open Go.ChangeShapes Go.WideShapes Go.ChangeAt Go.RowKit Go.Proofs.YtadlmhclpaifoaaGreatDoor.Opens
open Go.ChangeMaps (open_string shut_string)
theorem contract (H:Type) (enc:TypeId × Value->H) (W:World) (base:Nat) (args:Array Value) (ds gs:List (DataW H)) (before:List MemPlace)
  (hval0:∀(j:Nat) t v,Tryz.f4.params[j]?=some t->args[j]?=some v->Value.okWide Tryz.prog W .any base t v)
  (hW:DataW.Whole enc Tryz.prog Tryz.f4.params.toList Rows.entryModifiesSpec.vars false W args.toList ds gs before) (hL:laidMetH Tryz.prog laid W) (hsh:W.ShapedOpen Tryz.prog)
  (hk:Rows.uptoSmall H (ds++gs)=true)
  (hsz0:(DataW.weightsEach Tryz.prog (Tryz.f4.params.toList++Rows.entryModifiesSpec.plain.varTypes Tryz.prog) (ds++gs)).all (·<=reachBytes)=true):
  Calls Tryz.prog 4 args W fun e W'=>∃v,e=.returned v/\Rows.entryModifiesSpec.post enc Tryz.prog Tryz.f4 false true false false W args v W':=by
 have hL0:laidMet Tryz.prog laid W:=by rw[MakeChecks.laidMetH_plain _ _ _ (by kernel_rfl)] at hL;exact hL
 have hT:TT W:=⟨zDi hL0,zC6 hL0⟩;have hM:Mx W:=⟨zDm hsh⟩;have hTM:TM W:=⟨hT,hM⟩;have hval:=hval0;have hW':=hW;obtain⟨p,q,hA0,hV,rfl,hfz,hnd⟩:=hW;have hA:DataW.TrodAll enc Tryz.prog W 0 (fun _=>true) true Tryz.f4.params.toList args.toList ds p:=hA0;have hsz:=hsz0;rw[Tryz.params4] at hA hval hsz;obtain⟨v0,vs0,d0,ds0,p0,q0,hargs,rfl,rfl,h0,r0⟩:=trodAll_cons hA;obtain⟨v1,vs1,d1,ds1,p1,q1,rfl,rfl,rfl,h1,r1⟩:=trodAll_cons r0;obtain⟨rfl,rfl,rfl⟩:=trodAll_nil r1;obtain rfl:args=#[v0,v1]:=by cases args;simp_all
 obtain⟨rfl,rfl⟩:=trodVars_none hV;have k0:=h0;have lt0:∀x∈p0,x.block<W.heap.size:=by obtain⟨m,hm⟩:=k0;exact DataW.trod_lt m _ _ _ hm
 obtain⟨A0,c0,xs0,e0,rfl,cp0,mx0,has0,as0,nm0,sm0⟩:=zFq Tryz.underlying26 (by kernel_rfl) rfl rfl (by kernel_rfl) (by kernel_rfl) Tryz.underlying9 Tryz.underlying22 Tryz.underlying41 (by kernel_rfl) rfl rfl (by kernel_rfl) (by kernel_rfl) Tryz.underlying9 Tryz.underlying39 (by kernel_rfl) Tryz.underlying9 (hval 0 26 v0 rfl rfl) h0;have k1:=h1;have lt1:∀x∈p1,x.block<W.heap.size:=by obtain⟨m,hm⟩:=k1;exact DataW.trod_lt m _ _ _ hm
 obtain⟨A1,c1,xs1,l1,rfl,cp1,mx1,has1,as1,sm1⟩:=zCq (hval 1 32 v1 rfl rfl) h1;have hbk:Rows.uptoBulkAll (H:=H) _<=1048576:=of_decide_eq_true hk;simp only[List.append_nil,Rows.uptoBulkAll] at hbk;clear hA0 hval0 hL hL0 hsz0 hsz hk;refine (zMf e0.1 e0.2 l1 W A0 e0.2.length c0 xs0 has0 as0 cp0 mx0 A1 l1.length c1 xs1 ⟨has1,as1⟩ hTM (zIx (by omega) nm0 sm0).1 (zIx (by omega) nm0 sm0).2 (zIa (by omega) sm1).2 (zIa (by omega) sm1).1).mono fun e W' ⟨he,bel⟩=>?_
 subst he;exact⟨_,rfl,_,_,_,[],_,[],hW',trodAll_mk1 (shut_bool Tryz.underlying4 _),(trodAll_cons_mk (Below.trod laidOut (by kernel_rfl) (of_decide_eq_true (by kernel_rfl)) k0 bel lt0) (trodAll_cons_mk (Below.trod laidOut (by kernel_rfl) (of_decide_eq_true (by kernel_rfl)) k1 bel lt1) trodAll_mk0)),rfl,bel.frame _,fun h=>by cases h⟩
theorem reads (os:Os) {H:Type} (enc:TypeId × Value->H):DataW.whole enc Tryz.prog (({ World.doorLaid Tryz.prog 400 os with heap:=laidHeap (World.doorLaid Tryz.prog 400 os).heap }:World).forCall (fun _ _=>0) ⟨#[],#[.agg #[.string .empty,.slice none 0 0],.slice none 0 0],[]⟩).memory Tryz.f4.params.toList Rows.entryModifiesSpec.vars false (#[.agg #[.string .empty,.slice none 0 0],.slice none 0 0]:Array Value).toList 8=some ([.agg [.lit (.string []),.nil],.nil],[],[]):=by
 kernel_rfl
theorem lifted (os:Os) (started:os.Started) (H:Type) (enc:TypeId × Value->H) (F:Stop.Interp):
  ReturnsInHanded {} Tryz.checked os 4 .any ((Rows.OpenSpec.upto Rows.entryModifiesSpec).preRow enc Tryz.prog Tryz.f4 [] false laid) (((Rows.OpenSpec.upto Rows.entryModifiesSpec).at F).post enc Tryz.prog Tryz.f4 false true false false):=by
 have hok:Input.okWideB Tryz.prog (({ World.doorLaid Tryz.prog 400 os with heap:=laidHeap (World.doorLaid Tryz.prog 400 os).heap }:World).forCall (fun _ _=>0) ⟨#[],#[.agg #[.string .empty,.slice none 0 0],.slice none 0 0],[]⟩) 4 ⟨#[],#[.agg #[.string .empty,.slice none 0 0],.slice none 0 0],[]⟩=true:=by kernel_rfl
 refine returnsInHanded_of_row (C:=Tryz.checked) (s:=Rows.OpenSpec.upto Rows.entryModifiesSpec) own started (by kernel_rfl) Tryz.func4
  ⟨{ World.doorLaid Tryz.prog 400 os with heap:=laidHeap (World.doorLaid Tryz.prog 400 os).heap },fun _ _=>0,⟨#[],#[.agg #[.string .empty,.slice none 0 0],.slice none 0 0],[]⟩,rfl,zE0 os _,(Input.okWide_of_okWideB (base:=0) hok).1,(Input.okWide_of_okWideB hok).2,
   OpenSpec.preRow_of_cond 8 (reads os enc) (by kernel_rfl) (fun k hk=>by cases hk;kernel_rfl) (by kernel_rfl) (zJc os _),by
    simp only[Assume.holds]
    exact⟨by simp,by simp,fun _=>Modest.zero,by simp,by simp⟩⟩ ?_
 intro W base args ds gs before hval hW _ hcond hsz hL hsh _;exact contract H enc W base args ds gs before hval hW hL hsh (hcond _ rfl) hsz
theorem closed:joinedFacts Tryz.checked.prog 4 Tryz.f4 (Rows.OpenSpec.upto Rows.entryModifiesSpec).bare Rows.entryModifiesUptoRow=true:=by
 unfold joinedFacts;simp only[Bool.and_eq_true]
 repeat' apply And.intro
 all_goals (as_aux_lemma=>kernel_rfl)
theorem zDy:Rows.EntryModifiesUptoSaid:=
 OpenClaim.holds_of_cond 4 Tryz.f4 rfl rfl rfl rfl rfl rfl rfl ⟨rfl,rfl,rfl,rfl,rfl⟩ rfl rfl rfl rfl rfl (by as_aux_lemma=>kernel_rfl) Tryz.func4 closed
  (of_decide_eq_true (by kernel_rfl)) (by unfold Func.isWrapper;first | (rw[if_pos (by decide+kernel)];kernel_rfl) | (rw[if_neg (by decide+kernel)];exact⟨rfl,rfl⟩))
  (fun os started H enc _ F=>by rw[OpenClaim.pre_eq_preRow];exact lifted os started H enc F)
theorem proved:Rows.EntryModifiesUptoCardSaid:=
 Claim7.holds_tied_plain_at .later [] Rows.entryModifiesUptoCard.laidKinds true Rows.entryModifiesUptoCard.stood.harness true
  zDy (fun _ h=>by cases h) (by kernel_rfl) (fun _ h=>by cases h) entryModifiesUpto_row_tie rfl ⟨rfl,rfl⟩ (by kernel_rfl) rfl
  (fun f fn hf hfn=>by
   obtain rfl:f=4:=Option.some.inj ((show Tryz.prog.funcNamed Rows.entryModifiesUptoRow.func=some 4 by kernel_rfl).symm.trans hf) |>.symm
   obtain rfl:fn=Tryz.f4:=(Option.some.inj (Tryz.func4.symm.trans hfn)).symm
   exact⟨by kernel_rfl,fun j t ht=>by
    rw[Tryz.params4] at ht
    have hm:t∈[26,32]:=(by simpa using Array.mem_of_getElem? ht);have hall:([26,32].all fun u=> !Tryz.prog.wantsStandIn u)=true:=by kernel_rfl
    exact (show Tryz.prog.wantsStandIn t=false by simpa using List.all_eq_true.1 hall t hm)⟩)
  (by kernel_rfl)
end Go.Proofs.YtadlmhclpaifoaaGreatDoor.entryModifiesUpto
