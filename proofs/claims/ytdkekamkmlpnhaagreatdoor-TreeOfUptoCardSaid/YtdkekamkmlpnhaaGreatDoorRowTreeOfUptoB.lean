/- 'TreeOf': whatever the input, in a memory in which the library's listed tables hold what the program's text lays, the law answers true and leaves its arguments as they were, where what it reads is of bulk at most 1048576; and the list is tied to the program's text. -/
import Derived.Test.YtdkekamkmlpnhaaGreatDoorRowTreeOfUptoA
set_option linter.unusedSimpArgs false
set_option linter.unusedVariables false
namespace Go.Proofs.YtdkekamkmlpnhaaGreatDoor.treeOfUpto
open Go.ChangeShapes Go.WideShapes Go.ChangeAt Go.RowKit Go.Proofs.YtdkekamkmlpnhaaGreatDoor.Opens
open Go.ChangeMaps (open_string shut_string)
theorem fn_named:Tryz.pinned.checked.prog.funcNamed Rows.treeOfUptoRow.func=some 3:=by kernel_rfl
theorem zLa:Tryz.f3.isInstance Tryz.pinned.checked.prog Rows.treeOfUptoRow.origin Rows.treeOfUptoRow.targs:=of_decide_eq_true (by kernel_rfl)
theorem zK2:Tryz.f3.isWrapper Tryz.pinned.checked.prog Rows.treeOfUptoRow.wrapper Rows.treeOfUptoRow.mainSum:=by unfold Func.isWrapper;first | (rw[if_pos (by decide+kernel)];kernel_rfl) | (rw[if_neg (by decide+kernel)];exact⟨rfl,rfl⟩)
end Go.Proofs.YtdkekamkmlpnhaaGreatDoor.treeOfUpto
