/-
  How a byte of a value is written, case by case. By an AI agent.
-/
import Derived.Test.YtihoachcpabkeaaGreatDoorPSpec
namespace Go.Proofs.YtihoachcpabkeaaGreatDoor
open Go.RowKit
set_option linter.unusedVariables false

/-- How a byte is written: with a stroke, by two digits, by itself. -/
inductive EscIs (first last : Bool) (c : UInt8) : Prop where
  | spec (h : isSpec c = true) (e : esc first last c = [92, c])
  | ahead (h : isSpec c = false) (h1 : first = true) (hc : c = 32 ∨ c = 35) (e : esc first last c = [92, c])
  | behind (h : isSpec c = false) (h0 : first = false) (h1 : last = true) (hc : c = 32) (e : esc first last c = [92, c])
  | hex (h : isSpec c = false) (hc : c.toNat < 32 ∨ 126 < c.toNat) (n1 : c ≠ 32) (n2 : c ≠ 35) (e : esc first last c = [92, hexD (c.toNat / 16), hexD (c.toNat % 16)])
  | inside (h : isSpec c = false) (h0 : first = false) (h1 : last = false) (hc : c = 32) (e : esc first last c = [c])
  | hash (h : isSpec c = false) (h0 : first = false) (hc : c = 35) (e : esc first last c = [c])
  | plain (h : isSpec c = false) (n1 : c ≠ 32) (n2 : c ≠ 35) (hc : 32 ≤ c.toNat ∧ c.toNat ≤ 126) (e : esc first last c = [c])

theorem esc_is (first last : Bool) (c : UInt8) : EscIs first last c := by
  cases hs : isSpec c with
  | true => exact .spec hs (by unfold esc; rw [hs]; rfl)
  | false =>
    by_cases h32 : c = 32
    · subst h32
      cases first with
      | true => exact .ahead hs rfl (Or.inl rfl) (by cases last <;> rfl)
      | false =>
        cases last with
        | true => exact .behind hs rfl rfl rfl rfl
        | false => exact .inside hs rfl rfl rfl rfl
    · by_cases h35 : c = 35
      · subst h35
        cases first with
        | true => exact .ahead hs rfl (Or.inr rfl) (by cases last <;> rfl)
        | false => exact .hash hs rfl rfl (by cases last <;> rfl)
      · have e0 : (isSpec c || (first && (c == 32 || c == 35)) || (last && c == 32)) = false := by
          have h1 : (c == 32) = false := by simpa using h32
          have h2 : (c == 35) = false := by simpa using h35
          rw [hs, h1, h2]; cases first <;> cases last <;> rfl
        by_cases hc : c.toNat < 32 ∨ 126 < c.toNat
        · refine .hex hs hc h32 h35 ?_
          unfold esc
          rw [e0, if_neg (by simp), if_pos hc]
        · refine .plain hs h32 h35 (by omega) ?_
          unfold esc
          rw [e0, if_neg (by simp), if_neg hc]

theorem wr_drop {l : List UInt8} {i : Nat} {c : UInt8} (hc : l[i]? = some c) :
    wrFrom (decide (i = 0)) (l.drop i) = esc (decide (i = 0)) (decide (i + 1 = l.length)) c ++ wrFrom (decide (i + 1 = 0)) (l.drop (i + 1)) := by
  obtain ⟨hi, e⟩ := List.getElem?_eq_some_iff.1 hc
  rw [List.drop_eq_getElem_cons hi, e, wrFrom]
  have h1 : (l.drop (i + 1)).isEmpty = decide (i + 1 = l.length) := by
    rw [Bool.eq_iff_iff, List.isEmpty_iff, List.drop_eq_nil_iff, decide_eq_true_iff]
    omega
  rw [h1]
  simp

theorem wr_at {l o : List UInt8} {i : Nat} {c : UInt8} (h : o ++ wrFrom (decide (i = 0)) (l.drop i) = wrV l) (hc : l[i]? = some c) (x : List UInt8) (hx : esc (decide (i = 0)) (decide (i + 1 = l.length)) c = x) :
    (o ++ x) ++ wrFrom (decide (i + 1 = 0)) (l.drop (i + 1)) = wrV l := by
  rw [← h, wr_drop hc, hx, List.append_assoc]

theorem wr_long : ∀ (l : List UInt8) (first : Bool), (wrFrom first l).length ≤ 3 * l.length
  | [], _ => by simp [wrFrom]
  | c :: r, first => by
    have ih := wr_long r false
    have he : (esc first r.isEmpty c).length ≤ 3 := by
      unfold esc
      split
      · simp
      · split <;> simp
    unfold wrFrom
    rw [List.length_append, List.length_cons]
    omega
theorem wr_len (l : List UInt8) : (wrV l).length ≤ 3 * l.length := wr_long l true

theorem lit2 (w : World) (a b : UInt8) : (w.alloc (.cells #[c8 a, c8 b] 5)).ownsRow w.heap.size 5 1 (.slice (some ⟨w.heap.size, 0, none⟩) 2 2) 2 (bys [a, b]) :=
  own_lit w #[c8 a, c8 b] 5 2 (by unfold maxLen; omega) rfl
theorem lit3 (w : World) (a b c : UInt8) : (w.alloc (.cells #[c8 a, c8 b, c8 c] 5)).ownsRow w.heap.size 5 1 (.slice (some ⟨w.heap.size, 0, none⟩) 3 3) 3 (bys [a, b, c]) :=
  own_lit w #[c8 a, c8 b, c8 c] 5 3 (by unfold maxLen; omega) rfl

theorem nil_own (w : World) (base : Nat) (e : TypeId) (size : Nat) : w.ownsRow base e size (.slice none 0 0) 0 [] := ⟨by simp, .inl ⟨rfl, rfl⟩⟩

end Go.Proofs.YtihoachcpabkeaaGreatDoor
