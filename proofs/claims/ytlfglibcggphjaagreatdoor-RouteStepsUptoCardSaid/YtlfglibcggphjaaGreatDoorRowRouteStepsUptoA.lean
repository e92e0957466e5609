/- 'RouteSteps': whatever the input, in a memory in which the library's listed tables hold what the program's text lays, the law answers true and leaves its arguments as they were, where what it reads is of bulk at most 1048576; and the list is tied to the program's text. -/
import Derived.Test.YtlfglibcggphjaaGreatDoorLaid
import Derived.Test.YtlfglibcggphjaaGreatDoorOpens
import Derived.Test.YtlfglibcggphjaaGreatDoorTie
import Derived.Test.YtlfglibcggphjaaGreatDoorCards
import Derived.Test.YtlfglibcggphjaaGreatDoorKFLaw
import Derived.Test.YtlfglibcggphjaaGreatDoorShaped
import Derived.Test.YtlfglibcggphjaaGreatDoorOpenCfg
import Derived.Deep.DeepHandedRow
set_option linter.unusedSimpArgs false
set_option linter.unusedVariables false
set_option maxRecDepth 1000000
set_option maxHeartbeats 64000000
namespace Go.Proofs.YtlfglibcggphjaaGreatDoor.routeStepsUpto
open Go.ChangeShapes Go.WideShapes Go.ChangeAt Go.RowKit Go.Proofs.YtlfglibcggphjaaGreatDoor.Opens
open Go.ChangeMaps (open_string shut_string)
theorem contract (H:Type) (enc:TypeId × Value->H) (W:World) (base:Nat) (args:Array Value) (ds gs:List (DataW H)) (before:List MemPlace)
  (hval0:∀(j:Nat) t v,Tryz.f3.params[j]?=some t->args[j]?=some v->Value.okWide Tryz.prog W .any base t v)
  (hW:DataW.Whole enc Tryz.prog Tryz.f3.params.toList Rows.routeStepsSpec.vars false W args.toList ds gs before) (hL:laidMetH Tryz.prog laid W) (hsh:W.ShapedOpen Tryz.prog)
  (hk:Rows.uptoSmall H (ds++gs)=true)
  (hsz0:(DataW.weightsEach Tryz.prog (Tryz.f3.params.toList++Rows.routeStepsSpec.plain.varTypes Tryz.prog) (ds++gs)).all (·<=reachBytes)=true):
  Calls Tryz.prog 3 args W fun e W'=>∃v,e=.returned v/\Rows.routeStepsSpec.post enc Tryz.prog Tryz.f3 false true false false W args v W':=by
 have hL0:laidMet Tryz.prog laid W:=by rw[MakeChecks.laidMetH_plain _ _ _ (by kernel_rfl)] at hL;exact hL
 have hT:TT W:=⟨zFg hL0,zEm hL0⟩;have hM:Mx W:=⟨zFx hsh⟩;have hTM:TM W:=⟨hT,hM⟩;have hval:=hval0;have hW':=hW;obtain⟨p,q,hA0,hV,rfl,hfz,hnd⟩:=hW;have hA:DataW.TrodAll enc Tryz.prog W 0 (fun _=>true) true Tryz.f3.params.toList args.toList ds p:=hA0;have hsz:=hsz0;rw[Tryz.params3] at hA hval hsz;obtain⟨v0,vs0,d0,ds0,p0,q0,hargs,rfl,rfl,h0,r0⟩:=trodAll_cons hA;obtain⟨v1,vs1,d1,ds1,p1,q1,rfl,rfl,rfl,h1,r1⟩:=trodAll_cons r0;obtain⟨v2,vs2,d2,ds2,p2,q2,rfl,rfl,rfl,h2,r2⟩:=trodAll_cons r1;obtain⟨rfl,rfl,rfl⟩:=trodAll_nil r2;obtain rfl:args=#[v0,v1,v2]:=by cases args;simp_all
 obtain⟨rfl,rfl⟩:=trodVars_none hV;have k0:=h0;have lt0:∀x∈p0,x.block<W.heap.size:=by obtain⟨m,hm⟩:=k0;exact DataW.trod_lt m _ _ _ hm
 obtain⟨A0,n0,c0,T0,m0,e0,l0,t0,CF0⟩:=zEv (hval 0 25 v0 rfl rfl) h0;obtain rfl:=CF0.is;obtain⟨x1,rfl,rfl,rfl,wf1⟩:=open_int Tryz.underlying3 (hval 1 3 v1 rfl rfl) h1;obtain⟨s2,rfl,rfl,rfl,m2⟩:=open_string Tryz.underlying9 (hval 2 9 v2 rfl rfl) h2;have b2:s2.size<=281474976710656:=by have h1:=sized_string hsz (j:=2) (t:=9) rfl rfl;have h2:=Lib.size_eq s2;have h3:=reachBytes_lt;omega
 have hbk:Rows.uptoBulkAll (H:=H) _<=1048576:=of_decide_eq_true hk;simp only[List.append_nil,Rows.uptoBulkAll] at hbk;clear hA0 hval0 hL hL0 hsz0 hsz hk;refine (zIv l0 t0 s2 x1 W A0 n0 c0 T0 m0 e0 CF0.cfg (CF0.w (by omega)) (CF0.b (by omega)) hTM).mono fun e W' ⟨he,bel⟩=>?_
 subst he;exact⟨_,rfl,_,_,_,[],_,[],hW',trodAll_mk1 (shut_bool Tryz.underlying4 _),(trodAll_cons_mk (Below.trod laidOut (by kernel_rfl) (of_decide_eq_true (by kernel_rfl)) k0 bel lt0) (trodAll_cons_mk (shut_int Tryz.underlying3 wf1) (trodAll_cons_mk (shut_string Tryz.underlying9 m2) trodAll_mk0))),rfl,bel.frame _,fun h=>by cases h⟩
theorem reads (os:Os) {H:Type} (enc:TypeId × Value->H):DataW.whole enc Tryz.prog (({ World.doorLaid Tryz.prog 400 os with heap:=laidHeap (World.doorLaid Tryz.prog 400 os).heap }:World).forCall (fun _ _=>0) ⟨#[],#[.agg #[.slice none 0 0,.slice none 0 0],.int .i64 0,.string .empty],[]⟩).memory Tryz.f3.params.toList Rows.routeStepsSpec.vars false (#[.agg #[.slice none 0 0,.slice none 0 0],.int .i64 0,.string .empty]:Array Value).toList 8=some ([.agg [.nil,.nil],.lit (.int .i64 0),.lit (.string [])],[],[]):=by
 kernel_rfl
theorem lifted (os:Os) (started:os.Started) (H:Type) (enc:TypeId × Value->H) (F:Stop.Interp):
  ReturnsInHanded {} Tryz.checked os 3 .any ((Rows.OpenSpec.upto Rows.routeStepsSpec).preRow enc Tryz.prog Tryz.f3 [] false laid) (((Rows.OpenSpec.upto Rows.routeStepsSpec).at F).post enc Tryz.prog Tryz.f3 false true false false):=by
 have hok:Input.okWideB Tryz.prog (({ World.doorLaid Tryz.prog 400 os with heap:=laidHeap (World.doorLaid Tryz.prog 400 os).heap }:World).forCall (fun _ _=>0) ⟨#[],#[.agg #[.slice none 0 0,.slice none 0 0],.int .i64 0,.string .empty],[]⟩) 3 ⟨#[],#[.agg #[.slice none 0 0,.slice none 0 0],.int .i64 0,.string .empty],[]⟩=true:=by kernel_rfl
 refine returnsInHanded_of_row (C:=Tryz.checked) (s:=Rows.OpenSpec.upto Rows.routeStepsSpec) own started (by kernel_rfl) Tryz.func3
  ⟨{ World.doorLaid Tryz.prog 400 os with heap:=laidHeap (World.doorLaid Tryz.prog 400 os).heap },fun _ _=>0,⟨#[],#[.agg #[.slice none 0 0,.slice none 0 0],.int .i64 0,.string .empty],[]⟩,rfl,zGv os _,(Input.okWide_of_okWideB (base:=0) hok).1,(Input.okWide_of_okWideB hok).2,
   OpenSpec.preRow_of_cond 8 (reads os enc) (by kernel_rfl) (fun k hk=>by cases hk;kernel_rfl) (by kernel_rfl) (laid_met os _),by
    simp only[Assume.holds]
    exact⟨by simp,by simp,fun _=>Modest.zero,by simp,by simp⟩⟩ ?_
 intro W base args ds gs before hval hW _ hcond hsz hL hsh _;exact contract H enc W base args ds gs before hval hW hL hsh (hcond _ rfl) hsz
theorem closed:joinedFacts Tryz.checked.prog 3 Tryz.f3 (Rows.OpenSpec.upto Rows.routeStepsSpec).bare Rows.routeStepsUptoRow=true:=by
 unfold joinedFacts;simp only[Bool.and_eq_true]
 repeat' apply And.intro
 all_goals (as_aux_lemma=>kernel_rfl)
end Go.Proofs.YtlfglibcggphjaaGreatDoor.routeStepsUpto
