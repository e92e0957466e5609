/- Several texts in one: Sums, RefSums, Adds, Norm, Back, Whole, ReckA, Reck, Cmp, Comp, Prints, RefNum, RefParse, Parses. By an AI agent. -/
import Derived.Test.YtlfglibcggphjaaGreatDoorMA
import Derived.Laws.ComplexArith
import Derived.BigQuiet
import Derived.Deep.QuietTactic
import Derived.Handy
import Derived.Deep.LoopGhost
set_option linter.unusedSimpArgs false
set_option linter.unusedVariables false
namespace Go.Proofs.YtlfglibcggphjaaGreatDoor
open Go.RowKit Flt
def InB (n m:Int):Prop:=(-1000000<=n/\n<=1000000)/\(-1000000<=m/\m<=1000000)
def res (r i:Nat) (n m:Int) (v:Value):Prop:=(InB n m/\v=.tuple #[.complex .f64 r i,.int .i64 0])\/(¬InB n m/\v=.tuple #[.complex .f64 0 0,.int .i64 3])
theorem zFj {w:World} {B:Nat} {u v:Value} (c0:w.cell? ⟨B,0,none⟩=some u) (c1:w.cell? ⟨B,1,none⟩=some v) (a b:Value):
  ((w.setCell ⟨B,0,none⟩ a).setCell ⟨B,1,none⟩ b).cell? ⟨B,0,none⟩=some a/\((w.setCell ⟨B,0,none⟩ a).setCell ⟨B,1,none⟩ b).cell? ⟨B,1,none⟩=some b:=by
 have h0:(w.setCell ⟨B,0,none⟩ a).cell? ⟨B,0,none⟩=some a:=World.cell?_setCell_same _ _ _ c0;have h1:(w.setCell ⟨B,0,none⟩ a).cell? ⟨B,1,none⟩=some v:=(World.cell?_setCell_other _ ⟨B,0,none⟩ ⟨B,1,none⟩ _ (by intro h;cases h)).trans c1;exact⟨(World.cell?_setCell_other _ ⟨B,1,none⟩ ⟨B,0,none⟩ _ (by intro h;cases h)).trans h0,World.cell?_setCell_same _ _ _ h1⟩
end Go.Proofs.YtlfglibcggphjaaGreatDoor
