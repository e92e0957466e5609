/-
  THE LIBRARY's TABLES THAT THE TEXTS OF THIS SEAT READ: what holds of them in a world ('Tabs'), that it stays, and that the row's own list gives it. By an AI agent.
-/
import Derived.Test.YtedenhfpbabjkaaGreatDoorRows
import Derived.Test.YtedenhfpbabjkaaGreatDoorShelf
import Derived.Stop.LaidErr
import Derived.Lib.LaidTab
import Derived.Lib.LaidU8T
import Derived.Lib.SmallJoins
import Derived.PinnedBridge
import Derived.Below
namespace Go.Proofs.YtedenhfpbabjkaaGreatDoor
open Go.RowKit Go.Lib

structure Tabs (w : World) : Prop where
  pow : Lib.TabIs Tryz.prog w "internal/strconv.uint64pow10" .u64 Lib.pow10Tab
  utf : Lib.Utf8Tabs 6 7 w
  syn : ∃ tp p, w.var? Tryz.prog "strconv.ErrSyntax" = some #[.iface tp p]
  rng : ∃ tp p, w.var? Tryz.prog "strconv.ErrRange" = some #[.iface tp p]

theorem Tabs.below {w w' : World} (h : Tabs w) (hb : Below w.heap.size w w') : Tabs w' := by
  obtain ⟨h1, h2, ⟨t3, p3, h3⟩, ⟨t4, p4, h4⟩⟩ := h
  exact ⟨Joins.tab_stays (g := 4) (by kernel_rfl) h1 hb (Nat.le_refl _), Utf8Tabs_below h2 hb,
    ⟨t3, p3, Joins.var_stays (g := 2) (by kernel_rfl) h3 hb (Nat.le_refl _)⟩, ⟨t4, p4, Joins.var_stays (g := 3) (by kernel_rfl) h4 hb (Nat.le_refl _)⟩⟩

/-- The list that each row of the seat bears. -/
def laid : List (String × DataW Unit) := Rows.ruleSameRow.laid

theorem pow_eq : Rows.laid_internal_strconv_uint64pow10 (H := Unit) = Lib.tabData .u64 Lib.pow10Tab := by kernel_rfl
theorem acc_eq : Rows.laid_unicode_utf8_acceptRanges (H := Unit) = acceptData := by kernel_rfl
theorem first_eq : Rows.laid_unicode_utf8_first = firstData := Pinned.utf8First_eq

theorem star_err : "*" ++ "errors.errorString" = "*errors.errorString" := by decide
theorem row_err (u : TypeId) (h : Tryz.prog.typeName? 3 u = some "*errors.errorString") : u = 134 :=
  typeName_ptr_named (nm := "errors.errorString") (by rw [star_err]; kernel_rfl) (by kernel_rfl) (by decide) u (by rw [star_err]; exact h)

theorem tabs_of_laid {W : World} (h : laidMet Tryz.prog laid W) : Tabs W := by
  have h' : laidMet Tryz.prog (_ :: _ :: _ :: _ :: _ :: _ :: _ :: _ :: []) W := h
  refine ⟨?_, ?_, ?_, ?_⟩
  · have h3 := h'.tail.tail
    rw [pow_eq] at h3
    exact tabIs_of_head (g := 4) (by kernel_rfl) (by kernel_rfl) Tryz.underlying126 Tryz.underlying96 (by kernel_rfl) (by kernel_rfl) h3
  · have r3 : VarReads Tryz.prog W "unicode/utf8.first" firstData := first_eq ▸ Lib.laidMet.reads h' (by simp)
    have r4 : VarReads Tryz.prog W "unicode/utf8.acceptRanges" acceptData := acc_eq ▸ Lib.laidMet.reads h' (by simp)
    exact utf8Tabs_of_reads (ρ := Tryz.lays271_ren) { Tryz.lays271 with } ⟨by kernel_rfl, by kernel_rfl, by kernel_rfl, by kernel_rfl, by kernel_rfl, by kernel_rfl, by kernel_rfl⟩ r3 r4
  · obtain ⟨a, t, hv, _⟩ := laid_sentinel (g := 2) h'.tail.tail.tail.tail.tail (by kernel_rfl) (by kernel_rfl) Tryz.underlying58 row_err Tryz.underlying134 Tryz.underlying136 rfl rfl Tryz.underlying9 (by kernel_rfl) (by kernel_rfl)
    exact ⟨_, _, hv⟩
  · obtain ⟨a, t, hv, _⟩ := laid_sentinel (g := 3) h'.tail.tail.tail.tail (by kernel_rfl) (by kernel_rfl) Tryz.underlying58 row_err Tryz.underlying134 Tryz.underlying136 rfl rfl Tryz.underlying9 (by kernel_rfl) (by kernel_rfl)
    exact ⟨_, _, hv⟩

end Go.Proofs.YtedenhfpbabjkaaGreatDoor
