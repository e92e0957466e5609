/- 'TreeNil': whatever the input, in a memory in which the library's listed tables hold what the program's text lays, the law answers true and leaves its arguments as they were, where what it reads is of bulk at most 1048576; and the list is tied to the program's text. -/
import Derived.Test.YtajkmiialgiikaaGreatDoorRowTreeNilUptoB
set_option linter.unusedSimpArgs false
set_option linter.unusedVariables false
namespace Go.Proofs.YtajkmiialgiikaaGreatDoor.treeNilUpto
open Go.ChangeShapes Go.WideShapes Go.ChangeAt Go.RowKit Go.Proofs.YtajkmiialgiikaaGreatDoor.Opens
open Go.ChangeMaps (open_string shut_string)
theorem zQp:Rows.TreeNilUptoSaid:=
 OpenClaim.holds_of_cond 5 Tryz.f5 rfl rfl rfl rfl rfl rfl rfl ⟨rfl,rfl,rfl,rfl,rfl⟩ rfl rfl rfl rfl rfl fn_named Tryz.func5 closed
  fn_inst fn_wrap
  (fun os started H enc _ F=>by rw[OpenClaim.pre_eq_preRow];exact lifted os started H enc F)
theorem proved:Rows.TreeNilUptoCardSaid:=
 Claim7.holds_tied_plain_at .later [] Rows.treeNilUptoCard.laidKinds true Rows.treeNilUptoCard.stood.harness true
  zQp (fun _ h=>by cases h) (by kernel_rfl) (fun _ h=>by cases h) treeNilUpto_row_tie rfl ⟨rfl,rfl⟩ (by kernel_rfl) rfl
  (fun f fn hf hfn=>by
   obtain rfl:f=5:=Option.some.inj (fn_named.symm.trans hf) |>.symm
   obtain rfl:fn=Tryz.f5:=(Option.some.inj (Tryz.func5.symm.trans hfn)).symm
   exact⟨by kernel_rfl,fun j t ht=>by
    rw[Tryz.params5] at ht
    have hm:t∈[48]:=(by simpa using Array.mem_of_getElem? ht);have hall:([48].all fun u=> !Tryz.prog.wantsStandIn u)=true:=by kernel_rfl
    exact (show Tryz.prog.wantsStandIn t=false by simpa using List.all_eq_true.1 hall t hm)⟩)
  (by kernel_rfl)
end Go.Proofs.YtajkmiialgiikaaGreatDoor.treeNilUpto
