/- 'RouteSteps': whatever the input, in a memory in which the library's listed tables hold what the program's text lays, the law answers true and leaves its arguments as they were, where what it reads is of bulk at most 1048576; and the list is tied to the program's text. -/
import Derived.Test.YtlfglibcggphjaaGreatDoorRowRouteStepsUptoA
set_option linter.unusedSimpArgs false
set_option linter.unusedVariables false
namespace Go.Proofs.YtlfglibcggphjaaGreatDoor.routeStepsUpto
open Go.ChangeShapes Go.WideShapes Go.ChangeAt Go.RowKit Go.Proofs.YtlfglibcggphjaaGreatDoor.Opens
open Go.ChangeMaps (open_string shut_string)
theorem fn_named:Tryz.pinned.checked.prog.funcNamed Rows.routeStepsUptoRow.func=some 3:=by kernel_rfl
theorem fn_inst:Tryz.f3.isInstance Tryz.pinned.checked.prog Rows.routeStepsUptoRow.origin Rows.routeStepsUptoRow.targs:=of_decide_eq_true (by kernel_rfl)
theorem fn_wrap:Tryz.f3.isWrapper Tryz.pinned.checked.prog Rows.routeStepsUptoRow.wrapper Rows.routeStepsUptoRow.mainSum:=by unfold Func.isWrapper;first | (rw[if_pos (by decide+kernel)];kernel_rfl) | (rw[if_neg (by decide+kernel)];exact⟨rfl,rfl⟩)
end Go.Proofs.YtlfglibcggphjaaGreatDoor.routeStepsUpto
