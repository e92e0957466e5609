/-
  Words and bounds of the rows' arguments. By an AI agent.
-/
import Derived.Test.YtmbinnahndiboaaDoorForm
import Derived.ProofKit
import Derived.OpenShut
namespace Go.Proofs.YtmbinnahndiboaaDoor
open Go.ChangeShapes Go.WideShapes

theorem word_lt {b : Nat} (h : (Lit.float .f64 b).wf = true) : b < 2 ^ 64 := by
  simpa [Lit.wf] using h

theorem i32_b {x : Int} (h : (Lit.int .i32 x).wf = true) : -2147483648 ≤ x ∧ x ≤ 2147483647 := by
  have e1 : IntKind.min .i32 = -2147483648 := rfl
  have e2 : IntKind.max .i32 = 2147483647 := rfl
  simpa [Lit.wf, e1, e2] using h

theorem i16_b {x : Int} (h : (Lit.int .i16 x).wf = true) : -32768 ≤ x ∧ x ≤ 32767 := by
  have e1 : IntKind.min .i16 = -32768 := rfl
  have e2 : IntKind.max .i16 = 32767 := rfl
  simpa [Lit.wf, e1, e2] using h

section
variable {H : Type} {enc : TypeId × Value → H} {P : Program} {w : World} {base : Nat} {spare : Nat → Bool} {held : Bool}

theorem trod_float {t : TypeId} {fuel : Nat} {cs : List Value} {x : DataW H × List MemPlace} {k : FloatKind} (ht : P.underlying t = some (.float k)) (h : DataW.trod enc P w base spare held fuel t cs = some x) : ∃ b, cs = [.float k b] ∧ x = (.lit (.float k b), []) ∧ (Lit.float k b).wf = true := by
  cases fuel with
  | zero => simp [DataW.trod] at h
  | succ n =>
    unfold DataW.trod at h
    rw [ht] at h
    split at h <;> simp_all

theorem mapM_range {α : Type} (f : Nat → Option α) : ∀ (n s : Nat) (l : List α), l.length = n → (∀ i x, l[i]? = some x → f (s + i) = some x) → (List.range' s n).mapM f = some l
  | 0, s, l, hl, _ => by cases l <;> simp_all
  | n + 1, s, [], hl, _ => by simp at hl
  | n + 1, s, x :: r, hl, h => by
    have h0 := h 0 x rfl
    have hr := mapM_range f n (s + 1) r (by simpa using hl) (fun i y hy => by
      have := h (i + 1) y hy
      rw [show s + 1 + i = s + (i + 1) by omega]; exact this)
    simp only [Nat.add_zero] at h0
    rw [List.range'_succ, List.mapM_cons, h0, hr]
    rfl

theorem open_floats {r : Reach} {b0 n : Nat} {t e : TypeId} {v : Value} {d : DataW H} {ps : List MemPlace} (ht : P.underlying t = some (.array n e)) (he : P.underlying e = some (.float .f64)) (hc : P.cellsOf t = n ∧ P.cellsOf e = 1)
    (hval : Value.okWide P w r b0 t v) (hd : DataW.Trod enc P w base spare held t v d ps) :
    ∃ l : List Nat, l.length = n ∧ v = .agg (l.map (Value.float .f64)).toArray ∧ d = .agg (l.map fun b => .lit (.float .f64 b)) ∧ ps = [] ∧ ∀ b ∈ l, (Lit.float .f64 b).wf = true := by
  simp only [Value.okWide, ht] at hval
  obtain ⟨cs, rfl, hcs, _⟩ := hval
  obtain ⟨fuel, hf⟩ := hd
  obtain ⟨xs, m, rfl, hx, hlen, hn, hel⟩ := DataW.trod_array ht hf
  simp only [Prod.mk.injEq] at hx
  obtain ⟨rfl, rfl⟩ := hx
  have key : ∀ i, i < n → ∃ b, cs.toList[i]? = some (.float .f64 b) ∧ xs[i]? = some (.lit (.float .f64 b), []) ∧ (Lit.float .f64 b).wf = true := by
    intro i hi
    have h1 := hel i hi
    rw [hc.2, Nat.mul_one] at h1
    rw [List.getElem?_eq_getElem (by omega)] at h1
    obtain ⟨b, e1, e2, e3⟩ := trod_float he h1
    refine ⟨b, ?_, by rw [List.getElem?_eq_getElem (by omega), e2], e3⟩
    have h3 : (cs.toList.drop i).take 1 = [.float .f64 b] := e1
    have h4 := congrArg (·[0]?) h3
    simpa [List.getElem?_take, List.getElem?_drop] using h4
  let g : Value → Nat := fun | .float _ b => b | _ => 0
  have hl : cs.toList.length = n := by rw [hc.1] at hlen; exact hlen
  refine ⟨cs.toList.map g, by simpa using hl, ?_, ?_, ?_, ?_⟩
  · congr 1
    apply Array.ext'
    apply List.ext_getElem?
    intro i
    by_cases hi : i < n
    · obtain ⟨b, e1, _⟩ := key i hi
      simp only [List.getElem?_map, e1, Option.map_some]
      rfl
    · rw [List.getElem?_eq_none (by omega), List.getElem?_eq_none (by simp; omega)]
  · congr 1
    apply List.ext_getElem?
    intro i
    by_cases hi : i < n
    · obtain ⟨b, e1, e2, _⟩ := key i hi
      simp only [List.getElem?_map, e1, e2, Option.map_some]
      rfl
    · rw [List.getElem?_eq_none (by simp; omega), List.getElem?_eq_none (by simp; omega)]
  · rw [List.flatMap_eq_nil_iff]
    intro x hx
    obtain ⟨i, hi, rfl⟩ := List.mem_iff_getElem.1 hx
    obtain ⟨b, _, e2, _⟩ := key i (by omega)
    rw [List.getElem?_eq_getElem hi] at e2
    rw [Option.some.inj e2]
  · intro b hb
    obtain ⟨x, hx, rfl⟩ := List.mem_map.1 hb
    obtain ⟨i, hi, rfl⟩ := List.mem_iff_getElem.1 hx
    obtain ⟨b, e1, _, e3⟩ := key i (by omega)
    rw [List.getElem?_eq_getElem hi] at e1
    rw [Option.some.inj e1]
    exact e3

theorem shut_floats {n : Nat} {t e : TypeId} {l : List Nat} (ht : P.underlying t = some (.array n e)) (he : P.underlying e = some (.float .f64)) (hc : P.cellsOf t = n ∧ P.cellsOf e = 1) (hl : l.length = n) (hw : ∀ b ∈ l, (Lit.float .f64 b).wf = true) :
    DataW.Trod enc P w base spare held t (.agg (l.map (Value.float .f64)).toArray) (.agg (l.map fun b => .lit (.float .f64 b))) [] := by
  refine ⟨2, ?_⟩
  have hm : (List.range n).mapM (fun i => DataW.trod enc P w base spare held 1 e ((((l.map (Value.float .f64)).drop (i * 1)).take 1))) = some (l.map fun b => ((.lit (.float .f64 b) : DataW H), ([] : List MemPlace))) := by
    rw [List.range_eq_range']
    refine mapM_range _ n 0 _ (by simpa using hl) ?_
    intro i x hx
    rw [List.getElem?_map] at hx
    obtain ⟨b, hb, rfl⟩ := Option.map_eq_some_iff.1 hx
    have hi : i < l.length := by
      rcases Nat.lt_or_ge i l.length with h | h
      · exact h
      · rw [List.getElem?_eq_none h] at hb; cases hb
    have e1 : ((l.map (Value.float .f64)).drop ((0 + i) * 1)).take 1 = [.float .f64 b] := by
      rw [Nat.zero_add, Nat.mul_one, List.take_one, List.head?_drop, List.getElem?_map, hb]; rfl
    rw [e1]
    have hwf := hw b (List.mem_of_getElem? hb)
    simp [DataW.trod, he, hwf]
  have e9 : (Value.agg (l.map (Value.float .f64)).toArray).cells.toList = l.map (Value.float .f64) := by simp [Value.cells]
  rw [e9]
  unfold DataW.trod
  rw [ht]
  dsimp only
  rw [if_pos (by rw [hc.1]; simpa using hl), hc.2, hm]
  simp [Function.comp_def]

theorem open_floats4 {r : Reach} {b0 : Nat} {t e : TypeId} {v : Value} {d : DataW H} {ps : List MemPlace} (ht : P.underlying t = some (.array 4 e)) (he : P.underlying e = some (.float .f64)) (hc : P.cellsOf t = 4 ∧ P.cellsOf e = 1)
    (hval : Value.okWide P w r b0 t v) (hd : DataW.Trod enc P w base spare held t v d ps) :
    ∃ a0 a1 a2 a3, v = .agg #[.float .f64 a0, .float .f64 a1, .float .f64 a2, .float .f64 a3] ∧ d = .agg [.lit (.float .f64 a0), .lit (.float .f64 a1), .lit (.float .f64 a2), .lit (.float .f64 a3)] ∧ ps = [] ∧ (Lit.float .f64 a0).wf = true ∧ (Lit.float .f64 a1).wf = true ∧ (Lit.float .f64 a2).wf = true ∧ (Lit.float .f64 a3).wf = true := by
  obtain ⟨l, hl, rfl, rfl, rfl, hw⟩ := open_floats ht he hc hval hd
  match l, hl with
  | [a0, a1, a2, a3], _ => exact ⟨a0, a1, a2, a3, rfl, rfl, rfl, hw a0 (by simp), hw a1 (by simp), hw a2 (by simp), hw a3 (by simp)⟩

theorem shut_floats4 {t e : TypeId} {a0 a1 a2 a3 : Nat} (ht : P.underlying t = some (.array 4 e)) (he : P.underlying e = some (.float .f64)) (hc : P.cellsOf t = 4 ∧ P.cellsOf e = 1) (h0 : (Lit.float .f64 a0).wf = true) (h1 : (Lit.float .f64 a1).wf = true) (h2 : (Lit.float .f64 a2).wf = true) (h3 : (Lit.float .f64 a3).wf = true) :
    DataW.Trod enc P w base spare held t (.agg #[.float .f64 a0, .float .f64 a1, .float .f64 a2, .float .f64 a3]) (.agg [.lit (.float .f64 a0), .lit (.float .f64 a1), .lit (.float .f64 a2), .lit (.float .f64 a3)]) [] :=
  shut_floats (l := [a0, a1, a2, a3]) ht he hc rfl (by simp; exact ⟨h0, h1, h2, h3⟩)

theorem open_floats6 {r : Reach} {b0 : Nat} {t e : TypeId} {v : Value} {d : DataW H} {ps : List MemPlace} (ht : P.underlying t = some (.array 6 e)) (he : P.underlying e = some (.float .f64)) (hc : P.cellsOf t = 6 ∧ P.cellsOf e = 1)
    (hval : Value.okWide P w r b0 t v) (hd : DataW.Trod enc P w base spare held t v d ps) :
    ∃ a0 a1 a2 a3 a4 a5, v = .agg #[.float .f64 a0, .float .f64 a1, .float .f64 a2, .float .f64 a3, .float .f64 a4, .float .f64 a5] ∧ d = .agg [.lit (.float .f64 a0), .lit (.float .f64 a1), .lit (.float .f64 a2), .lit (.float .f64 a3), .lit (.float .f64 a4), .lit (.float .f64 a5)] ∧ ps = [] ∧ (Lit.float .f64 a0).wf = true ∧ (Lit.float .f64 a1).wf = true ∧ (Lit.float .f64 a2).wf = true ∧ (Lit.float .f64 a3).wf = true ∧ (Lit.float .f64 a4).wf = true ∧ (Lit.float .f64 a5).wf = true := by
  obtain ⟨l, hl, rfl, rfl, rfl, hw⟩ := open_floats ht he hc hval hd
  match l, hl with
  | [a0, a1, a2, a3, a4, a5], _ => exact ⟨a0, a1, a2, a3, a4, a5, rfl, rfl, rfl, hw a0 (by simp), hw a1 (by simp), hw a2 (by simp), hw a3 (by simp), hw a4 (by simp), hw a5 (by simp)⟩

theorem shut_floats6 {t e : TypeId} {a0 a1 a2 a3 a4 a5 : Nat} (ht : P.underlying t = some (.array 6 e)) (he : P.underlying e = some (.float .f64)) (hc : P.cellsOf t = 6 ∧ P.cellsOf e = 1) (h0 : (Lit.float .f64 a0).wf = true) (h1 : (Lit.float .f64 a1).wf = true) (h2 : (Lit.float .f64 a2).wf = true) (h3 : (Lit.float .f64 a3).wf = true) (h4 : (Lit.float .f64 a4).wf = true) (h5 : (Lit.float .f64 a5).wf = true) :
    DataW.Trod enc P w base spare held t (.agg #[.float .f64 a0, .float .f64 a1, .float .f64 a2, .float .f64 a3, .float .f64 a4, .float .f64 a5]) (.agg [.lit (.float .f64 a0), .lit (.float .f64 a1), .lit (.float .f64 a2), .lit (.float .f64 a3), .lit (.float .f64 a4), .lit (.float .f64 a5)]) [] :=
  shut_floats (l := [a0, a1, a2, a3, a4, a5]) ht he hc rfl (by simp; exact ⟨h0, h1, h2, h3, h4, h5⟩)
end

end Go.Proofs.YtmbinnahndiboaaDoor
