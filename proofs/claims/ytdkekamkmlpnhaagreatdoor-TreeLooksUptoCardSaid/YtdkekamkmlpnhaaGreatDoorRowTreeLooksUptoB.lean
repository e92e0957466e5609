/- 'TreeLooks': whatever the input, in a memory in which the library's listed tables hold what the program's text lays, the law answers true and leaves its arguments as they were, where what it reads is of bulk at most 1048576; and the list is tied to the program's text. -/
import Derived.Test.YtdkekamkmlpnhaaGreatDoorRowTreeLooksUptoA
set_option linter.unusedSimpArgs false
set_option linter.unusedVariables false
namespace Go.Proofs.YtdkekamkmlpnhaaGreatDoor.treeLooksUpto
open Go.ChangeShapes Go.WideShapes Go.ChangeAt Go.RowKit Go.Proofs.YtdkekamkmlpnhaaGreatDoor.Opens
open Go.ChangeMaps (open_string shut_string)
theorem fn_named:Tryz.pinned.checked.prog.funcNamed Rows.treeLooksUptoRow.func=some 4:=by kernel_rfl
theorem zLa:Tryz.f4.isInstance Tryz.pinned.checked.prog Rows.treeLooksUptoRow.origin Rows.treeLooksUptoRow.targs:=of_decide_eq_true (by kernel_rfl)
theorem zK2:Tryz.f4.isWrapper Tryz.pinned.checked.prog Rows.treeLooksUptoRow.wrapper Rows.treeLooksUptoRow.mainSum:=by unfold Func.isWrapper;first | (rw[if_pos (by decide+kernel)];kernel_rfl) | (rw[if_neg (by decide+kernel)];exact⟨rfl,rfl⟩)
end Go.Proofs.YtdkekamkmlpnhaaGreatDoor.treeLooksUpto
