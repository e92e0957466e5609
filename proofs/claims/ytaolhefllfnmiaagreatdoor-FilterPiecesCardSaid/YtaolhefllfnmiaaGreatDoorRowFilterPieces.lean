/- 'FilterPieces': whatever the input, in a memory in which the library's listed tables hold what the program's text lays, the law answers true and leaves its arguments as they were; and the list is tied to the program's text. -/
import Derived.Test.YtaolhefllfnmiaaGreatDoorLaid
import Derived.Test.YtaolhefllfnmiaaGreatDoorOpens
import Derived.Test.YtaolhefllfnmiaaGreatDoorTie
import Derived.Test.YtaolhefllfnmiaaGreatDoorCards
import Derived.Test.YtaolhefllfnmiaaGreatDoorJLawPieces
import Derived.Test.YtaolhefllfnmiaaGreatDoorShaped
import Derived.Test.YtaolhefllfnmiaaGreatDoorOpenAttrs
set_option maxRecDepth 1000000
namespace Go.Proofs.YtaolhefllfnmiaaGreatDoor.filterPieces
open Go.ChangeShapes Go.WideShapes Go.ChangeAt Go.RowKit Go.Proofs.YtaolhefllfnmiaaGreatDoor.Opens
open Go.ChangeMaps (open_string shut_string)
set_option linter.unusedVariables false
theorem contract (H:Type) (enc:TypeId × Value→H) (W:World) (base:Nat) (args:Array Value) (ds gs:List (DataW H)) (before:List MemPlace)
  (hval0:∀(j:Nat) t v,Tryz.f6.params[j]?=some t→args[j]?=some v→Value.okWide Tryz.prog W .any base t v)
  (hW:DataW.Whole enc Tryz.prog Tryz.f6.params.toList Rows.filterPiecesSpec.vars false W args.toList ds gs before) (hL:laidMetH Tryz.prog laid W) (hsh:W.ShapedOpen Tryz.prog)
  (hsz0:(DataW.weightsEach Tryz.prog (Tryz.f6.params.toList++Rows.filterPiecesSpec.plain.varTypes Tryz.prog) (ds++gs)).all (·≤reachBytes)=true):
  Calls Tryz.prog 6 args W fun e W'=>∃v,e=.returned v∧Rows.filterPiecesSpec.post enc Tryz.prog Tryz.f6 false true false false W args v W':=by
 have hL0:laidMet Tryz.prog laid W:=by rw[MakeChecks.laidMetH_plain _ _ _ (by kernel_rfl)] at hL;exact hL
 have hT:TT W:=⟨tabs_of_laid hL0,types_of_laid hL0⟩
 have hM:Mx W:=⟨max_of_shape hsh⟩
 have hTM:TM W:=⟨hT,hM⟩
 have hFM:FM W:=⟨hTM,marks_of_laid hL0⟩
 have hval:=hval0
 have hW':=hW
 obtain⟨p,q,hA0,hV,rfl,hfz,hnd⟩:=hW
 have hA:DataW.TrodAll enc Tryz.prog W 0 (fun _=>true) true Tryz.f6.params.toList args.toList ds p:=hA0
 have hsz:=hsz0
 rw[Tryz.params6] at hA hval hsz
 obtain⟨v0,vs0,d0,ds0,p0,q0,hargs,rfl,rfl,h0,r0⟩:=trodAll_cons hA
 obtain⟨v1,vs1,d1,ds1,p1,q1,rfl,rfl,rfl,h1,r1⟩:=trodAll_cons r0
 obtain⟨v2,vs2,d2,ds2,p2,q2,rfl,rfl,rfl,h2,r2⟩:=trodAll_cons r1
 obtain⟨v3,vs3,d3,ds3,p3,q3,rfl,rfl,rfl,h3,r3⟩:=trodAll_cons r2
 obtain⟨rfl,rfl,rfl⟩:=trodAll_nil r3
 obtain rfl:args=#[v0,v1,v2,v3]:=by cases args;simp_all
 obtain⟨rfl,rfl⟩:=trodVars_none hV
 obtain⟨s0,rfl,rfl,rfl,m0⟩:=open_string Tryz.underlying9 (hval 0 9 v0 rfl rfl) h0
 have b0:s0.size≤281474976710656:=by
  have h1:=sized_string hsz (j:=0) (t:=9) rfl rfl
  have h2:=Lib.size_eq s0
  have h3:=reachBytes_lt
  omega
 obtain⟨s1,rfl,rfl,rfl,m1⟩:=open_string Tryz.underlying9 (hval 1 9 v1 rfl rfl) h1
 have b1:s1.size≤281474976710656:=by
  have h1:=sized_string hsz (j:=1) (t:=9) rfl rfl
  have h2:=Lib.size_eq s1
  have h3:=reachBytes_lt
  omega
 have k2:=h2
 have lt2:∀x∈p2,x.block<W.heap.size:=by obtain⟨m,hm⟩:=k2;exact DataW.trod_lt m _ _ _ hm
 obtain⟨A2,c2,l2,rfl,ml2,has2⟩:=open_texts Tryz.underlying22 (by kernel_rfl) Tryz.underlying9 (hval 2 22 v2 rfl rfl) h2
 have k3:=h3
 have lt3:∀x∈p3,x.block<W.heap.size:=by obtain⟨m,hm⟩:=k3;exact DataW.trod_lt m _ _ _ hm
 obtain⟨A3,c3,l3,rfl,ml3,has3⟩:=open_texts Tryz.underlying22 (by kernel_rfl) Tryz.underlying9 (hval 3 22 v3 rfl rfl) h3
 clear hA0 hval0 hL hL0 hsz0 hsz
 refine (pieces_law s0 s1 l2 l3 W A2 A3 l2.length c2 l3.length c3 b0 b1 has2 has3 ml2 ml3 hFM).mono fun e W' ⟨he,bel⟩=>?_
 subst he
 exact⟨_,rfl,_,_,_,[],_,[],hW',trodAll_mk1 (shut_bool Tryz.underlying4 _),(trodAll_cons_mk (shut_string Tryz.underlying9 m0) (trodAll_cons_mk (shut_string Tryz.underlying9 m1) (trodAll_cons_mk (Below.trod laidOut (by kernel_rfl) (of_decide_eq_true (by kernel_rfl)) k2 bel lt2) (trodAll_cons_mk (Below.trod laidOut (by kernel_rfl) (of_decide_eq_true (by kernel_rfl)) k3 bel lt3) trodAll_mk0)))),rfl,bel.frame _,fun h=>by cases h⟩
theorem lifted (os:Os) (started:os.Started) (H:Type) (enc:TypeId × Value→H):
  ReturnsInHanded {} Tryz.checked os 6 .any (fun w args=>(Rows.filterPiecesSpec.pre enc Tryz.prog Tryz.f6 [] false w args∧laidMetH Tryz.prog laid w)∧sizedMet enc Tryz.prog Tryz.f6 (OpenSpec.ofChange Rows.filterPiecesSpec) false w args)
   (Rows.filterPiecesSpec.post enc Tryz.prog Tryz.f6 false true false false):=by
 refine lift_shaped started (by kernel_rfl) Tryz.func6
  (ChangeSpec.witness_shaped (enc:=enc) (C:=Tryz.checked) (os:=os) (X:=fun w _=>laidMetH Tryz.prog laid w) false { World.doorLaid Tryz.prog 400 os with heap:=laidHeap (World.doorLaid Tryz.prog 400 os).heap } #[.string .empty,.string .empty,.slice none 0 0,.slice none 0 0] 8 rfl (laid_shaped os _) (by kernel_rfl) (by kernel_rfl) (by kernel_rfl) (laid_met os _)) ?_
 intro W base args ds gs before hval hW hL hsz hsh
 exact contract H enc W base args ds gs before hval hW hL hsh hsz
theorem row_holds:Rows.FilterPiecesSaid:=
 OpenClaim.holds_of_wide 6 Tryz.f6 rfl rfl rfl rfl rfl rfl rfl ⟨rfl,rfl,rfl,rfl,rfl⟩ rfl rfl rfl rfl rfl (by kernel_rfl) Tryz.func6 (by kernel_rfl)
  (of_decide_eq_true (by kernel_rfl)) (by unfold Func.isWrapper;first | (rw[if_pos (by decide+kernel)];kernel_rfl) | (rw[if_neg (by decide+kernel)];exact⟨rfl,rfl⟩))
  (fun os started H enc _=>lifted os started H enc)
theorem proved:Rows.FilterPiecesCardSaid:=
 Claim7.holds_tied_plain_at .later [] Rows.filterPiecesCard.laidKinds true Rows.filterPiecesCard.stood.harness true
  row_holds (fun _ h=>by cases h) (by kernel_rfl) (fun _ h=>by cases h) filterPieces_row_tie rfl ⟨rfl,rfl⟩ (by kernel_rfl) rfl
  (fun f fn hf hfn=>by
   obtain rfl:f=6:=Option.some.inj ((show Tryz.prog.funcNamed Rows.filterPiecesRow.func=some 6 by kernel_rfl).symm.trans hf) |>.symm
   obtain rfl:fn=Tryz.f6:=(Option.some.inj (Tryz.func6.symm.trans hfn)).symm
   exact⟨by kernel_rfl,fun j t ht=>by
    rw[Tryz.params6] at ht
    have hm:t∈[9,9,22,22]:=by simpa using Array.mem_of_getElem? ht
    have hall:([9,9,22,22].all fun u=> !Tryz.prog.wantsStandIn u)=true:=by kernel_rfl
    exact (show Tryz.prog.wantsStandIn t=false by simpa using List.all_eq_true.1 hall t hm)⟩)
  (by kernel_rfl)
end Go.Proofs.YtaolhefllfnmiaaGreatDoor.filterPieces
