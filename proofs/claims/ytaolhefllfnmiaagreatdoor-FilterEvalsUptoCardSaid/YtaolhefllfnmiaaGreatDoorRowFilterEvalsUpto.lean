/- 'FilterEvals': whatever the input, in a memory in which the library's listed tables hold what the program's text lays, the law answers true and leaves its arguments as they were, where what it reads is of bulk at most 1048576; and the list is tied to the program's text. -/
import Derived.Test.YtaolhefllfnmiaaGreatDoorLaid
import Derived.Test.YtaolhefllfnmiaaGreatDoorOpens
import Derived.Test.YtaolhefllfnmiaaGreatDoorTie
import Derived.Test.YtaolhefllfnmiaaGreatDoorCards
import Derived.Test.YtaolhefllfnmiaaGreatDoorJLawEvals
import Derived.Test.YtaolhefllfnmiaaGreatDoorShaped
import Derived.Test.YtaolhefllfnmiaaGreatDoorOpenBulk
import Derived.Deep.DeepHandedRow
import Derived.Test.YtaolhefllfnmiaaGreatDoorOpenAttrs
set_option maxRecDepth 1000000
namespace Go.Proofs.YtaolhefllfnmiaaGreatDoor.filterEvalsUpto
open Go.ChangeShapes Go.WideShapes Go.ChangeAt Go.RowKit Go.Proofs.YtaolhefllfnmiaaGreatDoor.Opens
open Go.ChangeMaps (open_string shut_string)
set_option linter.unusedVariables false
theorem contract (H:Type) (enc:TypeId × Value→H) (W:World) (base:Nat) (args:Array Value) (ds gs:List (DataW H)) (before:List MemPlace)
  (hval0:∀(j:Nat) t v,Tryz.f5.params[j]?=some t→args[j]?=some v→Value.okWide Tryz.prog W .any base t v)
  (hW:DataW.Whole enc Tryz.prog Tryz.f5.params.toList Rows.filterEvalsSpec.vars false W args.toList ds gs before) (hL:laidMetH Tryz.prog laid W) (hsh:W.ShapedOpen Tryz.prog)
  (hk:Rows.uptoSmall H (ds++gs)=true)
  (hsz0:(DataW.weightsEach Tryz.prog (Tryz.f5.params.toList++Rows.filterEvalsSpec.plain.varTypes Tryz.prog) (ds++gs)).all (·≤reachBytes)=true):
  Calls Tryz.prog 5 args W fun e W'=>∃v,e=.returned v∧Rows.filterEvalsSpec.post enc Tryz.prog Tryz.f5 false true false false W args v W':=by
 have hL0:laidMet Tryz.prog laid W:=by rw[MakeChecks.laidMetH_plain _ _ _ (by kernel_rfl)] at hL;exact hL
 have hT:TT W:=⟨tabs_of_laid hL0,types_of_laid hL0⟩
 have hM:Mx W:=⟨max_of_shape hsh⟩
 have hTM:TM W:=⟨hT,hM⟩
 have hFM:FM W:=⟨hTM,marks_of_laid hL0⟩
 have hval:=hval0
 have hW':=hW
 obtain⟨p,q,hA0,hV,rfl,hfz,hnd⟩:=hW
 have hA:DataW.TrodAll enc Tryz.prog W 0 (fun _=>true) true Tryz.f5.params.toList args.toList ds p:=hA0
 have hsz:=hsz0
 rw[Tryz.params5] at hA hval hsz
 obtain⟨v0,vs0,d0,ds0,p0,q0,hargs,rfl,rfl,h0,r0⟩:=trodAll_cons hA
 obtain⟨v1,vs1,d1,ds1,p1,q1,rfl,rfl,rfl,h1,r1⟩:=trodAll_cons r0
 obtain⟨rfl,rfl,rfl⟩:=trodAll_nil r1
 obtain rfl:args=#[v0,v1]:=by cases args;simp_all
 obtain⟨rfl,rfl⟩:=trodVars_none hV
 have k0:=h0
 have lt0:∀x∈p0,x.block<W.heap.size:=by obtain⟨m,hm⟩:=k0;exact DataW.trod_lt m _ _ _ hm
 obtain⟨t0,a0_0,a0_1,a0_2,a0_3,a0_4,a0_5,a0_6,rfl,fin0⟩:=open_filter Tryz.underlying25 (by kernel_rfl) rfl rfl rfl rfl rfl rfl rfl (by kernel_rfl) (by kernel_rfl) (by kernel_rfl) (by kernel_rfl) (by kernel_rfl) (by kernel_rfl) (by kernel_rfl) Tryz.underlying3 Tryz.underlying9 Tryz.underlying9 Tryz.underlying9 Tryz.underlying9 Tryz.underlying22 (by kernel_rfl) Tryz.underlying9 Tryz.underlying23 (hval 0 25 v0 rfl rfl) h0
 have k1:=h1
 have lt1:∀x∈p1,x.block<W.heap.size:=by obtain⟨m,hm⟩:=k1;exact DataW.trod_lt m _ _ _ hm
 obtain⟨A1,n1,c1,xs1,l1,rfl,ml1,has1,as1,wl1,ty1⟩:=open_attrs_bulk Tryz.underlying45 Tryz.underlying51 (by kernel_rfl) rfl rfl (by kernel_rfl) (by kernel_rfl) Tryz.underlying9 Tryz.underlying22 (by kernel_rfl) Tryz.underlying9 (hval 1 45 v1 rfl rfl) h1
 have hbk:Rows.uptoBulkAll (H:=H) _≤1048576:=of_decide_eq_true hk
 simp only[List.append_nil,Rows.uptoBulkAll] at hbk
 clear hA0 hval0 hL hL0 hsz0 hsz hk
 refine (evals_law t0 l1 W A1 n1 c1 xs1 a0_0 a0_1 a0_2 a0_3 a0_4 a0_5 a0_6 fin0 has1 as1 hFM ml1 (by omega) (fun a ha=>by have:=ty1 a ha;omega)).mono fun e W' ⟨he,bel⟩=>?_
 subst he
 exact⟨_,rfl,_,_,_,[],_,[],hW',trodAll_mk1 (shut_bool Tryz.underlying4 _),(trodAll_cons_mk (Below.trod laidOut (by kernel_rfl) (of_decide_eq_true (by kernel_rfl)) k0 bel lt0) (trodAll_cons_mk (Below.trod laidOut (by kernel_rfl) (of_decide_eq_true (by kernel_rfl)) k1 bel lt1) trodAll_mk0)),rfl,bel.frame _,fun h=>by cases h⟩
theorem reads (os:Os) {H:Type} (enc:TypeId × Value→H):DataW.whole enc Tryz.prog (({ World.doorLaid Tryz.prog 400 os with heap:=laidHeap (World.doorLaid Tryz.prog 400 os).heap }:World).forCall (fun _ _=>0) ⟨#[],#[.agg #[.int .i64 0,.string .empty,.string .empty,.string .empty,.string .empty,.slice none 0 0,.slice none 0 0],.slice none 0 0],[]⟩).memory Tryz.f5.params.toList Rows.filterEvalsSpec.vars false (#[.agg #[.int .i64 0,.string .empty,.string .empty,.string .empty,.string .empty,.slice none 0 0,.slice none 0 0],.slice none 0 0]:Array Value).toList 8=some ([.agg [.lit (.int .i64 0),.lit (.string []),.lit (.string []),.lit (.string []),.lit (.string []),.nil,.nil],.nil],[],[]):=by
 kernel_rfl
theorem lifted (os:Os) (started:os.Started) (H:Type) (enc:TypeId × Value→H) (F:Stop.Interp):
  ReturnsInHanded {} Tryz.checked os 5 .any ((Rows.OpenSpec.upto Rows.filterEvalsSpec).preRow enc Tryz.prog Tryz.f5 [] false laid) (((Rows.OpenSpec.upto Rows.filterEvalsSpec).at F).post enc Tryz.prog Tryz.f5 false true false false):=by
 have hok:Input.okWideB Tryz.prog (({ World.doorLaid Tryz.prog 400 os with heap:=laidHeap (World.doorLaid Tryz.prog 400 os).heap }:World).forCall (fun _ _=>0) ⟨#[],#[.agg #[.int .i64 0,.string .empty,.string .empty,.string .empty,.string .empty,.slice none 0 0,.slice none 0 0],.slice none 0 0],[]⟩) 5 ⟨#[],#[.agg #[.int .i64 0,.string .empty,.string .empty,.string .empty,.string .empty,.slice none 0 0,.slice none 0 0],.slice none 0 0],[]⟩=true:=by kernel_rfl
 refine returnsInHanded_of_row (C:=Tryz.checked) (s:=Rows.OpenSpec.upto Rows.filterEvalsSpec) own started (by kernel_rfl) Tryz.func5
  ⟨{ World.doorLaid Tryz.prog 400 os with heap:=laidHeap (World.doorLaid Tryz.prog 400 os).heap },fun _ _=>0,⟨#[],#[.agg #[.int .i64 0,.string .empty,.string .empty,.string .empty,.string .empty,.slice none 0 0,.slice none 0 0],.slice none 0 0],[]⟩,rfl,laid_shaped os _,(Input.okWide_of_okWideB (base:=0) hok).1,(Input.okWide_of_okWideB hok).2,
   OpenSpec.preRow_of_cond 8 (reads os enc) (by kernel_rfl) (fun k hk=>by cases hk;kernel_rfl) (by kernel_rfl) (laid_met os _),by
    simp only[Assume.holds]
    exact⟨by simp,by simp,fun _=>Modest.zero,by simp,by simp⟩⟩ ?_
 intro W base args ds gs before hval hW _ hcond hsz hL hsh _
 exact contract H enc W base args ds gs before hval hW hL hsh (hcond _ rfl) hsz
theorem row_holds:Rows.FilterEvalsUptoSaid:=
 OpenClaim.holds_of_cond 5 Tryz.f5 rfl rfl rfl rfl rfl rfl rfl ⟨rfl,rfl,rfl,rfl,rfl⟩ rfl rfl rfl rfl rfl (by kernel_rfl) Tryz.func5 (by kernel_rfl)
  (of_decide_eq_true (by kernel_rfl)) (by unfold Func.isWrapper;first | (rw[if_pos (by decide+kernel)];kernel_rfl) | (rw[if_neg (by decide+kernel)];exact⟨rfl,rfl⟩))
  (fun os started H enc _ F=>by rw[OpenClaim.pre_eq_preRow];exact lifted os started H enc F)
theorem proved:Rows.FilterEvalsUptoCardSaid:=
 Claim7.holds_tied_plain_at .later [] Rows.filterEvalsUptoCard.laidKinds true Rows.filterEvalsUptoCard.stood.harness true
  row_holds (fun _ h=>by cases h) (by kernel_rfl) (fun _ h=>by cases h) filterEvalsUpto_row_tie rfl ⟨rfl,rfl⟩ (by kernel_rfl) rfl
  (fun f fn hf hfn=>by
   obtain rfl:f=5:=Option.some.inj ((show Tryz.prog.funcNamed Rows.filterEvalsUptoRow.func=some 5 by kernel_rfl).symm.trans hf) |>.symm
   obtain rfl:fn=Tryz.f5:=(Option.some.inj (Tryz.func5.symm.trans hfn)).symm
   exact⟨by kernel_rfl,fun j t ht=>by
    rw[Tryz.params5] at ht
    have hm:t∈[25,45]:=by simpa using Array.mem_of_getElem? ht
    have hall:([25,45].all fun u=> !Tryz.prog.wantsStandIn u)=true:=by kernel_rfl
    exact (show Tryz.prog.wantsStandIn t=false by simpa using List.all_eq_true.1 hall t hm)⟩)
  (by kernel_rfl)
end Go.Proofs.YtaolhefllfnmiaaGreatDoor.filterEvalsUpto
