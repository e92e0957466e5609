/-
  The program's small looks: a type's name, whether a text is normal, whether a Who is one, whether a right is one bit. By an AI agent.
-/
import Derived.Test.YtilggbfjdglaaaaGreatDoorVBox
namespace Go.Proofs.YtilggbfjdglaaaaGreatDoor
open Go.RowKit
set_option linter.unusedVariables false

theorem tn_nil : tnV [] = ([], true) := by decide
theorem tn_yes {a : List UInt8} (h : (typ a).1 ≠ []) : tnV a = ((typ a).1, true) := Prod.ext rfl (decide_eq_true (Or.inr h))
theorem tn_no {a : List UInt8} (h0 : a ≠ []) (h : (typ a).1 = []) : tnV a = ([], false) := Prod.ext h (decide_eq_false fun hh => hh.elim h0 fun k => k h)

set_option maxRecDepth 100000 in
set_option maxHeartbeats 16000000 in
theorem tname_any (a : List UInt8) (w : World) (hT : TM w) :
    Calls Tryz.prog 24 #[.string (txt a)] w fun e w' => e = .returned (.tuple #[.string (txt (tnV a).1), .bool (tnV a).2]) ∧ Below w.heap.size w w' := by
  by_cases h0 : a = []
  · subst h0
    rw [tn_nil]
    have q0 : ((txt []).toList == []) = true := by rw [toeq]; rfl
    have e0 : txt [] = (⟨#[]⟩ : ByteArray) := rfl
    clear hT
    rw [e0] at q0 ⊢
    go_enter Tryz.func24, Tryz.ntmps24
    go_wp2
    go_ret2
    exact ⟨rfl, Below.refl _ _⟩
  · have q0 : ((txt a).toList == []) = false := by rw [toeq]; simpa using h0
    have hTy := type_any (txt a) w hT.tt.types
    rw [txt_toList] at hTy
    by_cases h1 : (typ a).1 = []
    · rw [tn_no h0 h1]
      rw [h1] at hTy
      have q1 : ((txt []).toList == []) = true := by rw [toeq]; rfl
      have q2 : ((txt []).toList != []) = false := by rw [txt_bytes]; rfl
      generalize (typ a).2 = y at *
      generalize txt a = s at *
      generalize txt [] = s0 at *
      clear h0 h1 hT
      go_enter Tryz.func24, Tryz.ntmps24
      go_wp2_with (go_at_call 36; fail)
      refine hTy.mono ?_
      rintro e w1 ⟨rfl, hb⟩
      clear hTy
      go_wp2
      go_ret2
      exact ⟨rfl, hb⟩
    · rw [tn_yes h1]
      have q1 : ((txt (typ a).1).toList == []) = false := by rw [toeq]; simpa using h1
      have q2 : ((txt (typ a).1).toList != []) = true := by rw [txt_bytes]; simpa using h1
      generalize (typ a).2 = y at *
      generalize txt a = s at *
      generalize txt (typ a).1 = s0 at *
      clear h0 h1 hT
      go_enter Tryz.func24, Tryz.ntmps24
      go_wp2_with (go_at_call 36; fail)
      refine hTy.mono ?_
      rintro e w1 ⟨rfl, hb⟩
      clear hTy
      go_wp2
      go_ret2
      exact ⟨rfl, hb⟩

set_option maxRecDepth 100000 in
set_option maxHeartbeats 16000000 in
theorem isnormal_any (l : List UInt8) (hl : l.length ≤ 1000000) (w : World) (hT : TM w) :
    Calls Tryz.prog 38 #[.string (txt l)] w fun e w' => e = .returned (.bool (Tr (NormP l))) ∧ Below w.heap.size w w' := by
  have hN := pnormal_text l hl w hT
  by_cases h0 : (normT l).2 = 0
  · by_cases h1 : (normT l).1 = l
    · rw [Tr_yes (show NormP l from Prod.ext h1 h0)]
      rw [h0, h1] at hN
      have q1 : ((txt l).toList == (txt l).toList) = true := by simp
      generalize txt l = s at *
      clear h0 h1 hT hl
      go_enter Tryz.func38, Tryz.ntmps38
      go_wp2_with (go_at_call 23; fail)
      refine hN.mono ?_
      rintro e w1 ⟨rfl, hb⟩
      clear hN
      go_wp2
      go_ret
      exact ⟨rfl, hb⟩
    · rw [Tr_no (show ¬ NormP l from fun h => h1 (by rw [show normT l = (l, 0) from h]))]
      rw [h0] at hN
      have q1 := str_ne h1
      generalize txt l = s at *
      generalize txt (normT l).1 = s1 at *
      clear h0 h1 hT hl
      go_enter Tryz.func38, Tryz.ntmps38
      go_wp2_with (go_at_call 23; fail)
      refine hN.mono ?_
      rintro e w1 ⟨rfl, hb⟩
      clear hN
      go_wp2
      go_ret
      exact ⟨rfl, hb⟩
  · rw [Tr_no (show ¬ NormP l from fun h => h0 (by rw [show normT l = (l, 0) from h]))]
    have q0 : ((normT l).2 == 0) = false := beq_false_of_ne h0
    generalize txt l = s at *
    generalize txt (normT l).1 = s1 at *
    generalize (normT l).2 = y at *
    clear h0 hT hl
    go_enter Tryz.func38, Tryz.ntmps38
    go_wp2_with (go_at_call 23; fail)
    refine hN.mono ?_
    rintro e w1 ⟨rfl, hb⟩
    clear hN
    go_wp2
    go_ret
    exact ⟨rfl, hb⟩

set_option maxRecDepth 100000 in
set_option maxHeartbeats 16000000 in
theorem isright_any (x : Int) (w : World) :
    Calls Tryz.prog 22 #[.int .i64 x] w fun e w' => e = .returned (.bool (Tr (RightP x))) ∧ w' = w := by
  by_cases h : RightP x
  · rw [Tr_yes h]
    rcases h with rfl | rfl | rfl | rfl | rfl | rfl
    all_goals
      go_enter Tryz.func22, Tryz.ntmps22
      go_wp2
      go_ret
      exact ⟨rfl, rfl⟩
  · rw [Tr_no h]
    have q1 : (x == 1) = false := beq_false_of_ne fun e => h (by unfold RightP; omega)
    have q2 : (x == 2) = false := beq_false_of_ne fun e => h (by unfold RightP; omega)
    have q3 : (x == 4) = false := beq_false_of_ne fun e => h (by unfold RightP; omega)
    have q4 : (x == 8) = false := beq_false_of_ne fun e => h (by unfold RightP; omega)
    have q5 : (x == 16) = false := beq_false_of_ne fun e => h (by unfold RightP; omega)
    have q6 : (x == 32) = false := beq_false_of_ne fun e => h (by unfold RightP; omega)
    clear h
    go_enter Tryz.func22, Tryz.ntmps22
    go_wp2
    go_ret
    exact ⟨rfl, rfl⟩

/-- How a Who is written. -/
inductive WhoWay (s : List UInt8) : Prop where
  | any (h : s = [42])
  | none (h : s = [45])
  | self (h : s = [61])
  | name (l : List UInt8) (h : s = 64 :: l)
  | bad (h1 : s ≠ [42]) (h2 : s ≠ [45]) (h3 : s ≠ [61]) (h : ∀ l, s ≠ 64 :: l)
theorem whoWay (s : List UInt8) : WhoWay s := by
  by_cases h1 : s = [42]
  · exact .any h1
  by_cases h2 : s = [45]
  · exact .none h2
  by_cases h3 : s = [61]
  · exact .self h3
  by_cases h4 : ∃ l, s = 64 :: l
  · obtain ⟨l, h⟩ := h4
    exact .name l h
  · exact .bad h1 h2 h3 fun l e => h4 ⟨l, e⟩
theorem who_name {l : List UInt8} : WhoP (64 :: l) ↔ NormP l := by
  constructor
  · rintro (h | h | h | ⟨m, h, hm⟩)
    · simp at h
    · simp at h
    · simp at h
    · injection h with _ h
      subst h
      exact hm
  · intro h
    exact Or.inr (Or.inr (Or.inr ⟨l, rfl, h⟩))
theorem who_bad {s : List UInt8} (h1 : s ≠ [42]) (h2 : s ≠ [45]) (h3 : s ≠ [61]) (h : ∀ l, s ≠ 64 :: l) : ¬ WhoP s := by
  rintro (e | e | e | ⟨l, e, _⟩)
  · exact h1 e
  · exact h2 e
  · exact h3 e
  · exact h l e

set_option maxRecDepth 100000 in
set_option maxHeartbeats 16000000 in
theorem iswho_any (s : List UInt8) (hs : s.length ≤ 1000000) (w : World) (hT : TM w) :
    Calls Tryz.prog 37 #[.string (txt s)] w fun e w' => e = .returned (.bool (Tr (WhoP s))) ∧ Below w.heap.size w w' := by
  have hC := Tryz.strings_CutPrefix (txt s) ⟨#[64]⟩ w
  rw [txt_toList, show (⟨#[64]⟩ : ByteArray).data.toList = [64] from rfl] at hC
  have q1 := toeq s [42]
  have q2 := toeq s [45]
  have q3 := toeq s [61]
  cases whoWay s with
  | any h =>
    rw [Tr_yes (show WhoP s from Or.inl h)]
    rw [show (s == [42]) = true by rw [h]; rfl] at q1
    rw [show (s == [45]) = false by rw [h]; rfl] at q2
    generalize txt s = S at *
    clear hC h hs hT q3
    go_enter Tryz.func37, Tryz.ntmps37
    go_wp2
    go_ret
    exact ⟨rfl, Below.refl _ _⟩
  | none h =>
    rw [Tr_yes (show WhoP s from Or.inr (Or.inl h))]
    rw [show (s == [42]) = false by rw [h]; rfl] at q1
    rw [show (s == [45]) = true by rw [h]; rfl] at q2
    generalize txt s = S at *
    clear hC h hs hT q3
    go_enter Tryz.func37, Tryz.ntmps37
    go_wp2
    go_ret
    exact ⟨rfl, Below.refl _ _⟩
  | self h =>
    rw [Tr_yes (show WhoP s from Or.inr (Or.inr (Or.inl h)))]
    rw [show (s == [42]) = false by rw [h]; rfl] at q1
    rw [show (s == [45]) = false by rw [h]; rfl] at q2
    rw [show (s == [61]) = true by rw [h]; rfl] at q3
    generalize txt s = S at *
    clear hC h hs hT
    go_enter Tryz.func37, Tryz.ntmps37
    go_wp2
    go_ret
    exact ⟨rfl, Below.refl _ _⟩
  | name l h =>
    subst h
    have hN := isnormal_any l (by simp at hs; omega) w hT
    obtain ⟨b, hb⟩ : ∃ b, Tr (NormP l) = b := ⟨_, rfl⟩
    have hB : Tr (WhoP (64 :: l)) = b := by
      rw [← hb]
      by_cases hp : NormP l
      · rw [Tr_yes hp, Tr_yes (who_name.2 hp)]
      · rw [Tr_no hp, Tr_no fun k => hp (who_name.1 k)]
    rw [hB]
    rw [hb] at hN
    rw [trim_at, pre_at] at hC
    rw [show ((64 :: l) == [42]) = false by simp] at q1
    rw [show ((64 :: l) == [45]) = false by simp] at q2
    rw [show ((64 :: l) == [61]) = false by simp] at q3
    change Calls _ _ _ _ (fun e w' => e = .returned (.tuple #[.string (txt l), .bool true]) ∧ w' = w) at hC
    generalize txt (64 :: l) = S at *
    generalize txt l = U at *
    clear hs hT hb hB
    go_enter Tryz.func37, Tryz.ntmps37
    go_wp2_with (go_at_call 50; fail)
    refine hC.mono ?_
    rintro e w1 ⟨rfl, hw1⟩
    obtain rfl := hw1.symm
    clear hC hw1
    go_wp2_with (go_at_call 38; fail)
    refine hN.mono ?_
    rintro e w2 ⟨rfl, hb⟩
    clear hN
    go_wp2
    go_ret
    exact ⟨rfl, hb⟩
  | bad h1 h2 h3 h =>
    rw [Tr_no (who_bad h1 h2 h3 h)]
    rw [trim_no h, pre_no h] at hC
    rw [show (s == [42]) = false by simpa using h1] at q1
    rw [show (s == [45]) = false by simpa using h2] at q2
    rw [show (s == [61]) = false by simpa using h3] at q3
    change Calls _ _ _ _ (fun e w' => e = .returned (.tuple #[.string (txt s), .bool false]) ∧ w' = w) at hC
    generalize txt s = S at *
    clear hs hT h h1 h2 h3
    go_enter Tryz.func37, Tryz.ntmps37
    go_wp2_with (go_at_call 50; fail)
    refine hC.mono ?_
    rintro e w1 ⟨rfl, hw1⟩
    obtain rfl := hw1.symm
    clear hC hw1
    go_wp2
    go_ret
    exact ⟨rfl, Below.refl _ _⟩

end Go.Proofs.YtilggbfjdglaaaaGreatDoor
