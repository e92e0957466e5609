/- 'TreeLooks': whatever the input, in a memory in which the library's listed tables hold what the program's text lays, the law answers true and leaves its arguments as they were, where what it reads is of bulk at most 1048576; and the list is tied to the program's text. -/
import Derived.Test.YtdkekamkmlpnhaaGreatDoorRowTreeLooksUptoB
set_option linter.unusedSimpArgs false
set_option linter.unusedVariables false
namespace Go.Proofs.YtdkekamkmlpnhaaGreatDoor.treeLooksUpto
open Go.ChangeShapes Go.WideShapes Go.ChangeAt Go.RowKit Go.Proofs.YtdkekamkmlpnhaaGreatDoor.Opens
open Go.ChangeMaps (open_string shut_string)
theorem zGg:Rows.TreeLooksUptoSaid:=
 OpenClaim.holds_of_cond 4 Tryz.f4 rfl rfl rfl rfl rfl rfl rfl ⟨rfl,rfl,rfl,rfl,rfl⟩ rfl rfl rfl rfl rfl fn_named Tryz.func4 closed
  zLa zK2
  (fun os started H enc _ F=>by rw[OpenClaim.pre_eq_preRow];exact lifted os started H enc F)
theorem proved:Rows.TreeLooksUptoCardSaid:=
 Claim7.holds_tied_plain_at .later [] Rows.treeLooksUptoCard.laidKinds true Rows.treeLooksUptoCard.stood.harness true
  zGg (fun _ h=>by cases h) (by kernel_rfl) (fun _ h=>by cases h) treeLooksUpto_row_tie rfl ⟨rfl,rfl⟩ (by kernel_rfl) rfl
  (fun f fn hf hfn=>by
   obtain rfl:f=4:=Option.some.inj (fn_named.symm.trans hf) |>.symm
   obtain rfl:fn=Tryz.f4:=(Option.some.inj (Tryz.func4.symm.trans hfn)).symm
   exact⟨by kernel_rfl,fun j t ht=>by
    rw[Tryz.params4] at ht
    have hm:t∈[22,9]:=(by simpa using Array.mem_of_getElem? ht);have hall:([22,9].all fun u=> !Tryz.prog.wantsStandIn u)=true:=by kernel_rfl
    exact (show Tryz.prog.wantsStandIn t=false by simpa using List.all_eq_true.1 hall t hm)⟩)
  (by kernel_rfl)
end Go.Proofs.YtdkekamkmlpnhaaGreatDoor.treeLooksUpto
