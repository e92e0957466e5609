/- 'TreeNil': whatever the input, in a memory in which the library's listed tables hold what the program's text lays, the law answers true and leaves its arguments as they were, where what it reads is of bulk at most 1048576; and the list is tied to the program's text. -/
import Derived.Test.YtajkmiialgiikaaGreatDoorLaid
import Derived.Test.YtajkmiialgiikaaGreatDoorOpens
import Derived.Test.YtajkmiialgiikaaGreatDoorTie
import Derived.Test.YtajkmiialgiikaaGreatDoorCards
import Derived.Test.YtajkmiialgiikaaGreatDoorTLaw
import Derived.Test.YtajkmiialgiikaaGreatDoorShaped
import Derived.Test.YtajkmiialgiikaaGreatDoorOpenOp
import Derived.Deep.DeepHandedRow
set_option linter.unusedSimpArgs false
set_option linter.unusedVariables false
set_option maxRecDepth 1000000
set_option maxHeartbeats 64000000
namespace Go.Proofs.YtajkmiialgiikaaGreatDoor.treeNilUpto
open Go.ChangeShapes Go.WideShapes Go.ChangeAt Go.RowKit Go.Proofs.YtajkmiialgiikaaGreatDoor.Opens
open Go.ChangeMaps (open_string shut_string)
theorem contract (H:Type) (enc:TypeId × Value->H) (W:World) (base:Nat) (args:Array Value) (ds gs:List (DataW H)) (before:List MemPlace)
  (hval0:∀(j:Nat) t v,Tryz.f5.params[j]?=some t->args[j]?=some v->Value.okWide Tryz.prog W .any base t v)
  (hW:DataW.Whole enc Tryz.prog Tryz.f5.params.toList Rows.treeNilSpec.vars false W args.toList ds gs before) (hL:laidMetH Tryz.prog laid W) (hsh:W.ShapedOpen Tryz.prog)
  (hk:Rows.uptoSmall H (ds++gs)=true)
  (hsz0:(DataW.weightsEach Tryz.prog (Tryz.f5.params.toList++Rows.treeNilSpec.plain.varTypes Tryz.prog) (ds++gs)).all (·<=reachBytes)=true):
  Calls Tryz.prog 5 args W fun e W'=>∃v,e=.returned v/\Rows.treeNilSpec.post enc Tryz.prog Tryz.f5 false true false false W args v W':=by
 have hL0:laidMet Tryz.prog laid W:=by rw[MakeChecks.laidMetH_plain _ _ _ (by kernel_rfl)] at hL;exact hL
 have hT:TT W:=⟨zIs hL0,zHw hL0⟩;have hM:Mx W:=⟨zIv hsh⟩;have hTM:TM W:=⟨hT,hM⟩;have hval:=hval0;have hW':=hW;obtain⟨p,q,hA0,hV,rfl,hfz,hnd⟩:=hW;have hA:DataW.TrodAll enc Tryz.prog W 0 (fun _=>true) true Tryz.f5.params.toList args.toList ds p:=hA0;have hsz:=hsz0;rw[Tryz.params5] at hA hval hsz;obtain⟨v0,vs0,d0,ds0,p0,q0,hargs,rfl,rfl,h0,r0⟩:=trodAll_cons hA;obtain⟨rfl,rfl,rfl⟩:=trodAll_nil r0;obtain rfl:args=#[v0]:=by cases args;simp_all
 obtain⟨rfl,rfl⟩:=trodVars_none hV;have k0:=h0;have lt0:∀x∈p0,x.block<W.heap.size:=by obtain⟨m,hm⟩:=k0;exact DataW.trod_lt m _ _ _ hm
 obtain⟨n0,a0,b0,c0,x0,y0,A0,e0,xs0,l0,C0,f0,ys0,cs0,OP0⟩:=zJb (hval 0 48 v0 rfl rfl) h0;obtain rfl:=OP0.is;have hbk:Rows.uptoBulkAll (H:=H) _<=1048576:=of_decide_eq_true hk;simp only[List.append_nil,Rows.uptoBulkAll] at hbk;clear hA0 hval0 hL hL0 hsz0 hsz hk;refine (nil_row OP0 hTM (by omega)).mono fun e W' ⟨he,bel⟩=>?_
 subst he;exact⟨_,rfl,_,_,_,[],_,[],hW',trodAll_mk1 (shut_bool Tryz.underlying4 _),(trodAll_cons_mk (Below.trod laidOut (by kernel_rfl) (of_decide_eq_true (by kernel_rfl)) k0 bel lt0) trodAll_mk0),rfl,bel.frame _,fun h=>by cases h⟩
theorem reads (os:Os) {H:Type} (enc:TypeId × Value->H):DataW.whole enc Tryz.prog (({ World.doorLaid Tryz.prog 400 os with heap:=laidHeap (World.doorLaid Tryz.prog 400 os).heap }:World).forCall (fun _ _=>0) ⟨#[],#[.agg #[.int .i64 0,.string .empty,.string .empty,.string .empty,.bool false,.bool false,.slice none 0 0,.slice none 0 0]],[]⟩).memory Tryz.f5.params.toList Rows.treeNilSpec.vars false (#[.agg #[.int .i64 0,.string .empty,.string .empty,.string .empty,.bool false,.bool false,.slice none 0 0,.slice none 0 0]]:Array Value).toList 8=some ([.agg [.lit (.int .i64 0),.lit (.string []),.lit (.string []),.lit (.string []),.lit (.bool false),.lit (.bool false),.nil,.nil]],[],[]):=by
 kernel_rfl
theorem lifted (os:Os) (started:os.Started) (H:Type) (enc:TypeId × Value->H) (F:Stop.Interp):
  ReturnsInHanded {} Tryz.checked os 5 .any ((Rows.OpenSpec.upto Rows.treeNilSpec).preRow enc Tryz.prog Tryz.f5 [] false laid) (((Rows.OpenSpec.upto Rows.treeNilSpec).at F).post enc Tryz.prog Tryz.f5 false true false false):=by
 have hok:Input.okWideB Tryz.prog (({ World.doorLaid Tryz.prog 400 os with heap:=laidHeap (World.doorLaid Tryz.prog 400 os).heap }:World).forCall (fun _ _=>0) ⟨#[],#[.agg #[.int .i64 0,.string .empty,.string .empty,.string .empty,.bool false,.bool false,.slice none 0 0,.slice none 0 0]],[]⟩) 5 ⟨#[],#[.agg #[.int .i64 0,.string .empty,.string .empty,.string .empty,.bool false,.bool false,.slice none 0 0,.slice none 0 0]],[]⟩=true:=by kernel_rfl
 refine returnsInHanded_of_row (C:=Tryz.checked) (s:=Rows.OpenSpec.upto Rows.treeNilSpec) own started (by kernel_rfl) Tryz.func5
  ⟨{ World.doorLaid Tryz.prog 400 os with heap:=laidHeap (World.doorLaid Tryz.prog 400 os).heap },fun _ _=>0,⟨#[],#[.agg #[.int .i64 0,.string .empty,.string .empty,.string .empty,.bool false,.bool false,.slice none 0 0,.slice none 0 0]],[]⟩,rfl,zKt os _,(Input.okWide_of_okWideB (base:=0) hok).1,(Input.okWide_of_okWideB hok).2,
   OpenSpec.preRow_of_cond 8 (reads os enc) (by kernel_rfl) (fun k hk=>by cases hk;kernel_rfl) (by kernel_rfl) (laid_met os _),by
    simp only[Assume.holds]
    exact⟨by simp,by simp,fun _=>Modest.zero,by simp,by simp⟩⟩ ?_
 intro W base args ds gs before hval hW _ hcond hsz hL hsh _;exact contract H enc W base args ds gs before hval hW hL hsh (hcond _ rfl) hsz
theorem closed:joinedFacts Tryz.checked.prog 5 Tryz.f5 (Rows.OpenSpec.upto Rows.treeNilSpec).bare Rows.treeNilUptoRow=true:=by
 unfold joinedFacts;simp only[Bool.and_eq_true]
 repeat' apply And.intro
 all_goals (as_aux_lemma=>kernel_rfl)
end Go.Proofs.YtajkmiialgiikaaGreatDoor.treeNilUpto
