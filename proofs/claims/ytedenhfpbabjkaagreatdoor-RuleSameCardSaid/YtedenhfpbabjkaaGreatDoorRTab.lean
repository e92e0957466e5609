/-
  The program's table of types, as the row's list says that it lies in memory. By an AI agent.
-/
import Derived.Test.YtedenhfpbabjkaaGreatDoorTabs
import Derived.Test.YtedenhfpbabjkaaGreatDoorRMath
import Derived.OpenShut
import Derived.Deep.MidRow
namespace Go.Proofs.YtedenhfpbabjkaaGreatDoor
open Go.RowKit Go.Lib

/-- The table's cells. -/
def tabCells : List Value := tab.flatMap fun e => [.string (txt e.1), .int .i64 e.2]

/-- The table lies where the program laid it. -/
structure Types (w : World) : Prop where
  var : w.var? Tryz.prog "verger/rule.types" = some tabCells.toArray

theorem Types.below {w w' : World} (h : Types w) (hb : Below w.heap.size w w') : Types w' :=
  ⟨Joins.var_stays (g := 0) (by kernel_rfl) h.var hb (Nat.le_refl _)⟩

def typesData : DataW Unit := .agg (tab.map fun e => .agg [.lit (.string e.1), .lit (.int .i64 e.2)])
theorem types_eq : Rows.laid_verger_rule_types (H := Unit) = typesData := by kernel_rfl

theorem flat_take {α : Type} : ∀ (l : List (List α)) (k : Nat), (∀ x ∈ l, x.length = k) → ∀ (i : Nat) (x : List α), l[i]? = some x → ((l.flatten).drop (i * k)).take k = x
  | [], _, _, _, _, h => by simp at h
  | y :: r, k, hl, 0, x, h => by
    simp only [List.getElem?_cons_zero, Option.some.injEq] at h
    subst h
    have := hl y (by simp)
    simp [← this]
  | y :: r, k, hl, i + 1, x, h => by
    simp only [List.getElem?_cons_succ] at h
    have := hl y (by simp)
    have e : (i + 1) * k = y.length + i * k := by rw [Nat.add_mul, this]; omega
    rw [List.flatten_cons, e, ← List.drop_drop, List.drop_left']
    · exact flat_take r k (fun x hx => hl x (by simp [hx])) i x h
    · rfl

/-- Two lists of pairs, cell for cell. -/
theorem pairs_ext {α : Type} : ∀ (n : Nat) (a b : List α), a.length = n * 2 → b.length = n * 2 → (∀ i, i < n → (a.drop (i * 2)).take 2 = (b.drop (i * 2)).take 2) → a = b
  | 0, a, b, ha, hb, _ => by
    have e1 : a = [] := List.length_eq_zero_iff.1 (by omega)
    have e2 : b = [] := List.length_eq_zero_iff.1 (by omega)
    rw [e1, e2]
  | n + 1, a, b, ha, hb, h => by
    have h0 := h 0 (by omega)
    simp only [Nat.zero_mul, List.drop_zero] at h0
    have ht : a.drop 2 = b.drop 2 := by
      refine pairs_ext n _ _ (by rw [List.length_drop]; omega) (by rw [List.length_drop]; omega) fun i hi => ?_
      have := h (i + 1) (by omega)
      rw [List.drop_drop, List.drop_drop]
      rw [show 2 + i * 2 = (i + 1) * 2 by omega]
      exact this
    rw [← List.take_append_drop 2 a, ← List.take_append_drop 2 b, h0, ht]

theorem two_ext {α : Type} {l : List α} {a b : α} (h : l.length = 2) (h0 : (l.drop 0).take 1 = [a]) (h1 : (l.drop 1).take 1 = [b]) : l = [a, b] := by
  match l, h with
  | [x, y], _ =>
    simp at h0 h1
    rw [h0, h1]

theorem data_cell (s : ByteArray) (l : List UInt8) (h : s.data.toList = l) : s = txt l := by
  subst h
  exact ByteArray.ext (Array.ext' (by simp [txt]))

theorem types_of_laid {W : World} (h : laidMet Tryz.prog laid W) : Types W := by
  have h' : laidMet Tryz.prog (_ :: _ :: _ :: _ :: _ :: _ :: _ :: _ :: []) W := h
  have hr : VarReads Tryz.prog W "verger/rule.types" typesData := types_eq ▸ Lib.laidMet.reads h' (by simp)
  obtain ⟨g, t, cs, fuel, p, hg, hty, hvar, hd⟩ := hr
  obtain rfl := Option.some.inj ((show Tryz.prog.globalNamed "verger/rule.types" = some 0 by kernel_rfl).symm.trans hg)
  obtain rfl := Option.some.inj ((show (Tryz.prog.globals[0]?).map (·.type) = some 55 by kernel_rfl).symm.trans hty)
  refine ⟨?_⟩
  rw [hvar]
  congr 1
  obtain ⟨xs, m, rfl, hx, hl, hxl, hall⟩ := DataW.trod_array Tryz.underlying55 hd
  have hxs : xs.map (·.1) = tab.map fun e => (DataW.agg [.lit (.string e.1), .lit (.int .i64 e.2)] : DataW Unit) := by
    have := congrArg Prod.fst hx
    simpa [typesData] using this.symm
  have hlen : cs.toList.length = 28 := by rw [hl]; kernel_rfl
  refine Array.ext' ?_
  refine pairs_ext 14 _ _ hlen (by simp [tabCells, tab]) fun i hi => ?_
  have h1 := hall i hi
  have hc2 : Tryz.prog.cellsOf 54 = 2 := by kernel_rfl
  rw [hc2] at h1
  have hit : i < tab.length := by simpa [tab] using hi
  obtain ⟨e, he⟩ : ∃ e, tab[i]? = some e := ⟨_, List.getElem?_eq_getElem hit⟩
  obtain ⟨b, hb⟩ : ∃ b, xs[i]? = some b := ⟨xs[i]'(by omega), List.getElem?_eq_getElem (by omega)⟩
  rw [hb] at h1
  have hb1 : b.1 = .agg [.lit (.string e.1), .lit (.int .i64 e.2)] := by
    have : (xs.map (·.1))[i]? = some b.1 := by simp [hb]
    rw [hxs] at this
    simpa [he] using this.symm
  generalize hcut : (cs.toList.drop (i * 2)).take 2 = cut at h1
  have hR : (tabCells.toArray.toList.drop (i * 2)).take 2 = [.string (txt e.1), .int .i64 e.2] := by
    have := flat_take (tab.map fun e => [Value.string (txt e.1), .int .i64 e.2]) 2 (by intro x hx; obtain ⟨e', _, rfl⟩ := List.mem_map.1 hx; rfl) i [.string (txt e.1), .int .i64 e.2] (by simp [he])
    simpa [tabCells, List.flatMap] using this
  rw [hR]
  obtain ⟨ys, n, rfl, hy, hyl, hyl2, hyall⟩ := DataW.trod_struct Tryz.underlying54 h1
  have hys : ys.map (·.1) = [.lit (.string e.1), .lit (.int .i64 e.2)] := by
    have := congrArg Prod.fst hy
    rw [hb1] at this
    simpa using this.symm
  obtain ⟨y0, y1, rfl⟩ : ∃ y0 y1, ys = [y0, y1] := by
    match ys, hys with
    | [y0, y1], _ => exact ⟨y0, y1, rfl⟩
  simp only [List.map_cons, List.map_nil, List.cons.injEq, and_true] at hys
  have f0 := hyall 0 _ rfl
  have f1 := hyall 1 _ rfl
  change DataW.trod _ _ _ _ _ _ _ 9 ((cut.drop 0).take (Tryz.prog.cellsOf 9)) = some y0 at f0
  change DataW.trod _ _ _ _ _ _ _ 3 ((cut.drop 1).take (Tryz.prog.cellsOf 3)) = some y1 at f1
  rw [show Tryz.prog.cellsOf 9 = 1 by kernel_rfl] at f0
  rw [show Tryz.prog.cellsOf 3 = 1 by kernel_rfl] at f1
  obtain ⟨s, hs, rfl, _⟩ := DataW.trod_string Tryz.underlying9 f0
  obtain ⟨z, hz, rfl, _⟩ := DataW.trod_int Tryz.underlying3 f1
  obtain ⟨hs1, hz1⟩ := hys
  simp only [DataW.lit.injEq, Lit.string.injEq, Lit.int.injEq, true_and] at hs1 hz1
  have hcl : cut.length = 2 := by rw [hyl]; kernel_rfl
  rw [two_ext hcl hs hz, hz1, data_cell s e.1 hs1]

end Go.Proofs.YtedenhfpbabjkaaGreatDoor
