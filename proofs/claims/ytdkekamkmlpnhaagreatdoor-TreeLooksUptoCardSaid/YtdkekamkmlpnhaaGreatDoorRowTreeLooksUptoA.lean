/- 'TreeLooks': whatever the input, in a memory in which the library's listed tables hold what the program's text lays, the law answers true and leaves its arguments as they were, where what it reads is of bulk at most 1048576; and the list is tied to the program's text. -/
import Derived.Test.YtdkekamkmlpnhaaGreatDoorTie
import Derived.Test.YtdkekamkmlpnhaaGreatDoorCards
import Derived.Deep.DeepHandedRow
import Derived.Test.YtdkekamkmlpnhaaGreatDoorLaid
import Derived.Test.YtdkekamkmlpnhaaGreatDoorOpens
import Derived.Test.YtdkekamkmlpnhaaGreatDoorTLooks
import Derived.Test.YtdkekamkmlpnhaaGreatDoorShaped
import Derived.Test.YtdkekamkmlpnhaaGreatDoorG23
set_option linter.unusedSimpArgs false
set_option linter.unusedVariables false
set_option maxRecDepth 1000000
set_option maxHeartbeats 64000000
namespace Go.Proofs.YtdkekamkmlpnhaaGreatDoor.treeLooksUpto
open Go.ChangeShapes Go.WideShapes Go.ChangeAt Go.RowKit Go.Proofs.YtdkekamkmlpnhaaGreatDoor.Opens
open Go.ChangeMaps (open_string shut_string)
theorem contract (H:Type) (enc:TypeId × Value->H) (W:World) (base:Nat) (args:Array Value) (ds gs:List (DataW H)) (before:List MemPlace)
  (hval0:∀(j:Nat) t v,Tryz.f4.params[j]?=some t->args[j]?=some v->Value.okWide Tryz.prog W .any base t v)
  (hW:DataW.Whole enc Tryz.prog Tryz.f4.params.toList Rows.treeLooksSpec.vars false W args.toList ds gs before) (hL:laidMetH Tryz.prog laid W) (hsh:W.ShapedOpen Tryz.prog)
  (hk:Rows.uptoSmall H (ds++gs)=true)
  (hsz0:(DataW.weightsEach Tryz.prog (Tryz.f4.params.toList++Rows.treeLooksSpec.plain.varTypes Tryz.prog) (ds++gs)).all (·<=reachBytes)=true):
  Calls Tryz.prog 4 args W fun e W'=>∃v,e=.returned v/\Rows.treeLooksSpec.post enc Tryz.prog Tryz.f4 false true false false W args v W':=by
 have hL0:laidMet Tryz.prog laid W:=by rw[MakeChecks.laidMetH_plain _ _ _ (by kernel_rfl)] at hL;exact hL
 have hT:TT W:=⟨zE5 hL0,zEj hL0⟩;have hM:Mx W:=⟨zFc hsh⟩;have hTM:TM W:=⟨hT,hM⟩;have hval:=hval0;have hW':=hW;obtain⟨p,q,hA0,hV,rfl,hfz,hnd⟩:=hW;have hA:DataW.TrodAll enc Tryz.prog W 0 (fun _=>true) true Tryz.f4.params.toList args.toList ds p:=hA0;have hsz:=hsz0;rw[Tryz.params4] at hA hval hsz;obtain⟨v0,vs0,d0,ds0,p0,q0,hargs,rfl,rfl,h0,r0⟩:=trodAll_cons hA;obtain⟨v1,vs1,d1,ds1,p1,q1,rfl,rfl,rfl,h1,r1⟩:=trodAll_cons r0;obtain⟨rfl,rfl,rfl⟩:=trodAll_nil r1;obtain rfl:args=#[v0,v1]:=by cases args;simp_all
 obtain⟨rfl,rfl⟩:=trodVars_none hV;have k0:=h0;have lt0:∀x∈p0,x.block<W.heap.size:=by obtain⟨m,hm⟩:=k0;exact DataW.trod_lt m _ _ _ hm
 obtain⟨A0,c0,xs0,l0,rfl,cp0,mx0,has0,as0,sm0⟩:=zKr Tryz.underlying22 Tryz.underlying38 (by kernel_rfl) rfl rfl (by kernel_rfl) (by kernel_rfl) Tryz.underlying9 Tryz.underlying36 Tryz.underlying60 (by kernel_rfl) rfl rfl (by kernel_rfl) (by kernel_rfl) Tryz.underlying9 Tryz.underlying43 (by kernel_rfl) Tryz.underlying9 (hval 0 22 v0 rfl rfl) h0;obtain⟨s1,rfl,rfl,rfl,m1⟩:=open_string Tryz.underlying9 (hval 1 9 v1 rfl rfl) h1;have b1:s1.size<=281474976710656:=by have h1:=sized_string hsz (j:=1) (t:=9) rfl rfl;have h2:=Lib.size_eq s1;have h3:=reachBytes_lt;omega
 have hbk:Rows.uptoBulkAll (H:=H) _<=1048576:=of_decide_eq_true hk;simp only[List.append_nil,Rows.uptoBulkAll] at hbk;clear hA0 hval0 hL hL0 hsz0 hsz hk;refine (zOq l0 s1 _ W A0 l0.length c0 xs0 has0 as0 (by have:=sm0.len;omega) sm0 (by omega) (by simp only[Rows.uptoBulk] at hbk;omega) hTM).mono fun e W' ⟨he,bel⟩=>?_
 subst he;exact⟨_,rfl,_,_,_,[],_,[],hW',trodAll_mk1 (shut_bool Tryz.underlying4 _),(trodAll_cons_mk (Below.trod laidOut (by kernel_rfl) (of_decide_eq_true (by kernel_rfl)) k0 bel lt0) (trodAll_cons_mk (shut_string Tryz.underlying9 m1) trodAll_mk0)),rfl,bel.frame _,fun h=>by cases h⟩
theorem reads (os:Os) {H:Type} (enc:TypeId × Value->H):DataW.whole enc Tryz.prog (({ World.doorLaid Tryz.prog 400 os with heap:=laidHeap (World.doorLaid Tryz.prog 400 os).heap }:World).forCall (fun _ _=>0) ⟨#[],#[.slice none 0 0,.string .empty],[]⟩).memory Tryz.f4.params.toList Rows.treeLooksSpec.vars false (#[.slice none 0 0,.string .empty]:Array Value).toList 8=some ([.nil,.lit (.string [])],[],[]):=by
 kernel_rfl
theorem lifted (os:Os) (started:os.Started) (H:Type) (enc:TypeId × Value->H) (F:Stop.Interp):
  ReturnsInHanded {} Tryz.checked os 4 .any ((Rows.OpenSpec.upto Rows.treeLooksSpec).preRow enc Tryz.prog Tryz.f4 [] false laid) (((Rows.OpenSpec.upto Rows.treeLooksSpec).at F).post enc Tryz.prog Tryz.f4 false true false false):=by
 have hok:Input.okWideB Tryz.prog (({ World.doorLaid Tryz.prog 400 os with heap:=laidHeap (World.doorLaid Tryz.prog 400 os).heap }:World).forCall (fun _ _=>0) ⟨#[],#[.slice none 0 0,.string .empty],[]⟩) 4 ⟨#[],#[.slice none 0 0,.string .empty],[]⟩=true:=by kernel_rfl
 refine returnsInHanded_of_row (C:=Tryz.checked) (s:=Rows.OpenSpec.upto Rows.treeLooksSpec) own started (by kernel_rfl) Tryz.func4
  ⟨{ World.doorLaid Tryz.prog 400 os with heap:=laidHeap (World.doorLaid Tryz.prog 400 os).heap },fun _ _=>0,⟨#[],#[.slice none 0 0,.string .empty],[]⟩,rfl,zGr os _,(Input.okWide_of_okWideB (base:=0) hok).1,(Input.okWide_of_okWideB hok).2,
   OpenSpec.preRow_of_cond 8 (reads os enc) (by kernel_rfl) (fun k hk=>by cases hk;kernel_rfl) (by kernel_rfl) (zMt os _),by
    simp only[Assume.holds]
    exact⟨by simp,by simp,fun _=>Modest.zero,by simp,by simp⟩⟩ ?_
 intro W base args ds gs before hval hW _ hcond hsz hL hsh _;exact contract H enc W base args ds gs before hval hW hL hsh (hcond _ rfl) hsz
theorem closed:joinedFacts Tryz.checked.prog 4 Tryz.f4 (Rows.OpenSpec.upto Rows.treeLooksSpec).bare Rows.treeLooksUptoRow=true:=by
 unfold joinedFacts;simp only[Bool.and_eq_true]
 repeat' apply And.intro
 all_goals (as_aux_lemma=>kernel_rfl)
end Go.Proofs.YtdkekamkmlpnhaaGreatDoor.treeLooksUpto
