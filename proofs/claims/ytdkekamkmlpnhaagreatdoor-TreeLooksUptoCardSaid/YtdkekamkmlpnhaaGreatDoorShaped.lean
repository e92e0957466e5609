/- A row's lift that hands its contract, beside the listed variables, the world's shape: what a library's variable that no list names holds is of its kind. By an AI agent. -/
import Derived.HandedShaped
import Derived.Shelf.Vars
import Derived.ProofKit
import Derived.Test.YtdkekamkmlpnhaaGreatDoorMA
import Derived.Test.YtdkekamkmlpnhaaGreatDoorOpens
set_option linter.unusedSimpArgs false
set_option linter.unusedVariables false
namespace Go.Proofs.YtdkekamkmlpnhaaGreatDoor
open Go.RowKit Go.Proofs.YtdkekamkmlpnhaaGreatDoor.Opens
theorem zFc {W:World} (h:W.ShapedOpen Tryz.prog):∃m,W.cell? ⟨1,0,none⟩=some (.int .i64 m):=
 cell_of_shapedOpen_int (t:=3) (zero:=#[.int .i64 0]) h (of_decide_eq_true (by kernel_rfl)) (by kernel_rfl) rfl (by kernel_rfl) (by kernel_rfl) Tryz.underlying3
end Go.Proofs.YtdkekamkmlpnhaaGreatDoor
