/-
  The walk of PhasorParses: whatever the text, true. By an AI agent.
-/
import Derived.Test.YtedenhfpbabjkaaGreatDoorRefParse
import Derived.Test.YtedenhfpbabjkaaGreatDoorReckA
namespace Go.Proofs.YtedenhfpbabjkaaGreatDoor
open Go.RowKit Flt
set_option linter.unusedVariables false

theorem at_ex (l : List UInt8) : ∀ k, k + 1 ≤ l.length → ∃ v, AtUp l (k + 1) v
  | 0, _ => ⟨0, AtUp.start l⟩
  | k + 1, h => by
    obtain ⟨v, hv⟩ := at_ex l k (by omega)
    have hx : l[k + 1]? = some l[k + 1] := List.getElem?_eq_getElem (by omega)
    by_cases h1 : l[k + 1] = 43
    · exact ⟨k + 1, AtUp.hit (by omega) hx (Or.inl h1)⟩
    · by_cases h2 : l[k + 1] = 45
      · exact ⟨k + 1, AtUp.hit (by omega) hx (Or.inr h2)⟩
      · exact ⟨v, hv.miss hx ⟨h1, h2⟩⟩

theorem itoa_inj {a b : Int} (ha : Small a) (hb : Small b) (h : Lib.itoa a = Lib.itoa b) : a = b := by
  have h1 := numP_itoa ha
  rw [h, numP_itoa hb] at h1
  exact (Option.some.inj h1).symm

/-- A text is one number's. -/
theorem text_inj {a b c d : Int} (ha : Small a) (hb : Small b) (hc : Small c) (hd : Small d) (h : text a b = text c d) : a = c ∧ b = d := by
  have hs := text_suffix (a := a) (b := b)
  rw [h, text_suffix] at hs
  by_cases hb0 : b = 0
  · have hd0 : d = 0 := by simpa [hb0] using hs
    subst hb0; subst hd0
    unfold text at h
    rw [if_pos rfl, if_pos rfl] at h
    exact ⟨itoa_inj ha hc h, rfl⟩
  · have hd0 : d ≠ 0 := by
      intro e
      simp [hb0, e] at hs
    rw [text_body hb0, text_body hd0] at h
    have e := List.append_cancel_right h
    obtain ⟨v, hv⟩ := at_ex (body a b ++ [105]) (body a b).length (by simp)
    have hv1 : AtUp (body a b ++ [105]) (body a b ++ [105]).length v := by simpa using hv
    have hv2 : AtUp (body c d ++ [105]) (body c d ++ [105]).length v := by rw [← e]; exact hv1
    have k1 := body_at hb hb0 hv1
    have k2 := body_at hd hd0 hv2
    rw [← e] at k2
    rcases k1 with ⟨e1, e2, e3⟩ | ⟨e1, e2, e3, e4⟩
    · rcases k2 with ⟨f1, f2, f3⟩ | ⟨f1, f2, f3, f4⟩
      · exact ⟨e1.trans f1.symm, Option.some.inj (e3.symm.trans f3)⟩
      · omega
    · rcases k2 with ⟨f1, f2, f3⟩ | ⟨f1, f2, f3, f4⟩
      · omega
      · exact ⟨itoa_inj ha hc (e3.symm.trans f3), Option.some.inj (e4.symm.trans f4)⟩

/-- Both parsers agree. -/
structure PA (s : ByteArray) (x y : Nat) (p q f : Int) : Prop where
  one : ∀ w, Tabs w → Calls Tryz.prog 20 #[.string s] w fun e w' => e = .returned (.tuple #[.complex .f64 x y, .int .i64 f]) ∧ Below w.heap.size w w'
  ref : ∀ w, Tabs w → Calls Tryz.prog 25 #[.string s] w fun e w' => e = .returned (.tuple #[.agg #[.int .i64 p, .int .i64 q], .int .i64 f]) ∧ Below w.heap.size w w'
  o1 : (FloatKind.f64.format.order x (fl p) == some .eq) = true
  o2 : (FloatKind.f64.format.order y (fl q) == some .eq) = true

theorem pa_any (s : ByteArray) (hs : s.size ≤ 281474976710656) : ∃ x y p q f, PA s x y p q f := by
  by_cases h : IsText s
  · obtain ⟨a, b, ha, hb, e⟩ := id h
    refine ⟨fl a, fl b, a, b, 0, parse_yes s hs a b ha hb e, fun w hT => ?_, same_fl ha, same_fl hb⟩
    refine (rparse_any s hs w hT).mono ?_
    intro en w' hh
    obtain ⟨p, q, f, rfl, hf, hbl⟩ := hh.out
    rcases hf with ⟨rfl, hp, hq, e2⟩ | ⟨_, _, _, hn⟩
    · obtain ⟨rfl, rfl⟩ := text_inj ha hb hp hq (e.symm.trans e2)
      exact ⟨rfl, hbl⟩
    · exact absurd h hn
  · have e0 : (FloatKind.f64.format.order 0 (fl 0) == some .eq) = true := by rw [fl0]; exact eq00
    refine ⟨0, 0, 0, 0, 2, parse_no s hs h, fun w hT => ?_, e0, e0⟩
    refine (rparse_any s hs w hT).mono ?_
    intro en w' hh
    obtain ⟨p, q, f, rfl, hf, hbl⟩ := hh.out
    rcases hf with ⟨rfl, hp, hq, e2⟩ | ⟨rfl, rfl, rfl, _⟩
    · exact absurd ⟨p, q, hp, hq, e2⟩ h
    · exact ⟨rfl, hbl⟩

end Go.Proofs.YtedenhfpbabjkaaGreatDoor
