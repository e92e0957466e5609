/- 'FilterBack': whatever the input, in a memory in which the library's listed tables hold what the program's text lays, the law answers true and leaves its arguments as they were; and the list is tied to the program's text. -/
import Derived.Test.YtaolhefllfnmiaaGreatDoorLaid
import Derived.Test.YtaolhefllfnmiaaGreatDoorOpens
import Derived.Test.YtaolhefllfnmiaaGreatDoorTie
import Derived.Test.YtaolhefllfnmiaaGreatDoorCards
import Derived.Test.YtaolhefllfnmiaaGreatDoorKLawBack
import Derived.Test.YtaolhefllfnmiaaGreatDoorShaped
import Derived.Test.YtaolhefllfnmiaaGreatDoorOpenFilter
set_option maxRecDepth 1000000
namespace Go.Proofs.YtaolhefllfnmiaaGreatDoor.filterBack
open Go.ChangeShapes Go.WideShapes Go.ChangeAt Go.RowKit Go.Proofs.YtaolhefllfnmiaaGreatDoor.Opens
open Go.ChangeMaps (open_string shut_string)
set_option linter.unusedVariables false
theorem contract (H:Type) (enc:TypeId × Value→H) (W:World) (base:Nat) (args:Array Value) (ds gs:List (DataW H)) (before:List MemPlace)
  (hval0:∀(j:Nat) t v,Tryz.f4.params[j]?=some t→args[j]?=some v→Value.okWide Tryz.prog W .any base t v)
  (hW:DataW.Whole enc Tryz.prog Tryz.f4.params.toList Rows.filterBackSpec.vars false W args.toList ds gs before) (hL:laidMetH Tryz.prog laid W) (hsh:W.ShapedOpen Tryz.prog)
  (hsz0:(DataW.weightsEach Tryz.prog (Tryz.f4.params.toList++Rows.filterBackSpec.plain.varTypes Tryz.prog) (ds++gs)).all (·≤reachBytes)=true):
  Calls Tryz.prog 4 args W fun e W'=>∃v,e=.returned v∧Rows.filterBackSpec.post enc Tryz.prog Tryz.f4 false true false false W args v W':=by
 have hL0:laidMet Tryz.prog laid W:=by rw[MakeChecks.laidMetH_plain _ _ _ (by kernel_rfl)] at hL;exact hL
 have hT:TT W:=⟨tabs_of_laid hL0,types_of_laid hL0⟩
 have hM:Mx W:=⟨max_of_shape hsh⟩
 have hTM:TM W:=⟨hT,hM⟩
 have hFM:FM W:=⟨hTM,marks_of_laid hL0⟩
 have hval:=hval0
 have hW':=hW
 obtain⟨p,q,hA0,hV,rfl,hfz,hnd⟩:=hW
 have hA:DataW.TrodAll enc Tryz.prog W 0 (fun _=>true) true Tryz.f4.params.toList args.toList ds p:=hA0
 have hsz:=hsz0
 rw[Tryz.params4] at hA hval hsz
 obtain⟨v0,vs0,d0,ds0,p0,q0,hargs,rfl,rfl,h0,r0⟩:=trodAll_cons hA
 obtain⟨v1,vs1,d1,ds1,p1,q1,rfl,rfl,rfl,h1,r1⟩:=trodAll_cons r0
 obtain⟨rfl,rfl,rfl⟩:=trodAll_nil r1
 obtain rfl:args=#[v0,v1]:=by cases args;simp_all
 obtain⟨rfl,rfl⟩:=trodVars_none hV
 have k0:=h0
 have lt0:∀x∈p0,x.block<W.heap.size:=by obtain⟨m,hm⟩:=k0;exact DataW.trod_lt m _ _ _ hm
 obtain⟨t0,a0_0,a0_1,a0_2,a0_3,a0_4,a0_5,a0_6,rfl,fin0⟩:=open_filter Tryz.underlying25 (by kernel_rfl) rfl rfl rfl rfl rfl rfl rfl (by kernel_rfl) (by kernel_rfl) (by kernel_rfl) (by kernel_rfl) (by kernel_rfl) (by kernel_rfl) (by kernel_rfl) Tryz.underlying3 Tryz.underlying9 Tryz.underlying9 Tryz.underlying9 Tryz.underlying9 Tryz.underlying22 (by kernel_rfl) Tryz.underlying9 Tryz.underlying23 (hval 0 25 v0 rfl rfl) h0
 obtain⟨s1,rfl,rfl,rfl,m1⟩:=open_string Tryz.underlying9 (hval 1 9 v1 rfl rfl) h1
 have b1:s1.size≤281474976710656:=by
  have h1:=sized_string hsz (j:=1) (t:=9) rfl rfl
  have h2:=Lib.size_eq s1
  have h3:=reachBytes_lt
  omega
 clear hA0 hval0 hL hL0 hsz0 hsz
 refine (back_law t0 s1 W a0_0 a0_1 a0_2 a0_3 a0_4 a0_5 a0_6 fin0 b1 hFM).mono fun e W' ⟨he,bel⟩=>?_
 subst he
 exact⟨_,rfl,_,_,_,[],_,[],hW',trodAll_mk1 (shut_bool Tryz.underlying4 _),(trodAll_cons_mk (Below.trod laidOut (by kernel_rfl) (of_decide_eq_true (by kernel_rfl)) k0 bel lt0) (trodAll_cons_mk (shut_string Tryz.underlying9 m1) trodAll_mk0)),rfl,bel.frame _,fun h=>by cases h⟩
theorem lifted (os:Os) (started:os.Started) (H:Type) (enc:TypeId × Value→H):
  ReturnsInHanded {} Tryz.checked os 4 .any (fun w args=>(Rows.filterBackSpec.pre enc Tryz.prog Tryz.f4 [] false w args∧laidMetH Tryz.prog laid w)∧sizedMet enc Tryz.prog Tryz.f4 (OpenSpec.ofChange Rows.filterBackSpec) false w args)
   (Rows.filterBackSpec.post enc Tryz.prog Tryz.f4 false true false false):=by
 refine lift_shaped started (by kernel_rfl) Tryz.func4
  (ChangeSpec.witness_shaped (enc:=enc) (C:=Tryz.checked) (os:=os) (X:=fun w _=>laidMetH Tryz.prog laid w) false { World.doorLaid Tryz.prog 400 os with heap:=laidHeap (World.doorLaid Tryz.prog 400 os).heap } #[.agg #[.int .i64 0,.string .empty,.string .empty,.string .empty,.string .empty,.slice none 0 0,.slice none 0 0],.string .empty] 8 rfl (laid_shaped os _) (by kernel_rfl) (by kernel_rfl) (by kernel_rfl) (laid_met os _)) ?_
 intro W base args ds gs before hval hW hL hsz hsh
 exact contract H enc W base args ds gs before hval hW hL hsh hsz
theorem row_holds:Rows.FilterBackSaid:=
 OpenClaim.holds_of_wide 4 Tryz.f4 rfl rfl rfl rfl rfl rfl rfl ⟨rfl,rfl,rfl,rfl,rfl⟩ rfl rfl rfl rfl rfl (by kernel_rfl) Tryz.func4 (by kernel_rfl)
  (of_decide_eq_true (by kernel_rfl)) (by unfold Func.isWrapper;first | (rw[if_pos (by decide+kernel)];kernel_rfl) | (rw[if_neg (by decide+kernel)];exact⟨rfl,rfl⟩))
  (fun os started H enc _=>lifted os started H enc)
theorem proved:Rows.FilterBackCardSaid:=
 Claim7.holds_tied_plain_at .later [] Rows.filterBackCard.laidKinds true Rows.filterBackCard.stood.harness true
  row_holds (fun _ h=>by cases h) (by kernel_rfl) (fun _ h=>by cases h) filterBack_row_tie rfl ⟨rfl,rfl⟩ (by kernel_rfl) rfl
  (fun f fn hf hfn=>by
   obtain rfl:f=4:=Option.some.inj ((show Tryz.prog.funcNamed Rows.filterBackRow.func=some 4 by kernel_rfl).symm.trans hf) |>.symm
   obtain rfl:fn=Tryz.f4:=(Option.some.inj (Tryz.func4.symm.trans hfn)).symm
   exact⟨by kernel_rfl,fun j t ht=>by
    rw[Tryz.params4] at ht
    have hm:t∈[25,9]:=by simpa using Array.mem_of_getElem? ht
    have hall:([25,9].all fun u=> !Tryz.prog.wantsStandIn u)=true:=by kernel_rfl
    exact (show Tryz.prog.wantsStandIn t=false by simpa using List.all_eq_true.1 hall t hm)⟩)
  (by kernel_rfl)
end Go.Proofs.YtaolhefllfnmiaaGreatDoor.filterBack
