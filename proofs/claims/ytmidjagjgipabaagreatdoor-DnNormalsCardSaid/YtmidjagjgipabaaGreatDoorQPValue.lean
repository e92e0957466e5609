/-
  A value of any type, by the program. By an AI agent.
-/
import Derived.Test.YtmidjagjgipabaaGreatDoorQValue
namespace Go.Proofs.YtmidjagjgipabaaGreatDoor
open Go.RowKit
set_option linter.unusedVariables false

set_option maxRecDepth 100000 in
set_option maxHeartbeats 16000000 in
theorem pvalue_any (n v : List UInt8) (hn : n.length ≤ 3000) (hv : v.length ≤ 3000) (w : World) (hT : TM w) :
    Calls Tryz.prog 7 #[.string (txt n), .string (txt v)] w fun e w' => e = .returned (.tuple #[.string (txt (valV n v).1), .int .i64 (valV n v).2]) ∧ Below w.heap.size w w' := by
  have hTy := fun w hT => type_any (txt n) w hT
  simp only [txt_toList] at hTy
  have hsz : (txt v).size = v.length := txt_size v
  obtain ⟨M, hM⟩ : ∃ M, txt (typ n).1 = M := ⟨_, rfl⟩
  obtain ⟨x, hx⟩ : ∃ x, (typ n).2 = x := ⟨_, rfl⟩
  rw [hM, hx] at hTy
  cases vway n v with
  | other h e =>
    have hNo := fun w hT => normal_any (txt n) (txt v) (by rw [txt_size]; omega) w hT
    simp only [txt_toList] at hNo
    rw [hx] at h
    rw [e]
    generalize txt (norm n v).1 = X at *
    generalize (norm n v).2 = y at *
    generalize txt n = s at *
    generalize txt v = t at *
    have h2 : (x != 5) = true := by unfold bne; rw [h]; rfl
    clear hM hx e hsz hn hv
    go_enter Tryz.func7, Tryz.ntmps7
    go_wp2_with (go_at_call 13; fail)
    refine (hTy _ hT.tt.types).mono ?_
    rintro e w1 ⟨rfl, hb1⟩
    go_wp2_with (go_at_call 14; fail)
    refine (hNo _ (hT.below hb1).tt).mono ?_
    rintro e w2 ⟨rfl, hb2⟩
    have hb3 := hb1.trans (hb2.mono hb1.size)
    clear hb1 hb2 hTy hNo
    go_wp2
    go_ret2
    exact ⟨rfl, hb3⟩
  | short h h1 e =>
    rw [hx] at h
    rw [e]
    have e0 : ((txt v).toList == []) = true := by cases v with | nil => exact nil_text | cons a r => simp at h1
    generalize txt n = s at *
    generalize txt v = t at *
    have h2 : (x != 5) = false := by unfold bne; rw [h]; rfl
    clear hM hx e hsz hn hv
    go_enter Tryz.func7, Tryz.ntmps7
    go_wp2_with (go_at_call 13; fail)
    refine (hTy _ hT.tt.types).mono ?_
    rintro e w1 ⟨rfl, hb1⟩
    clear hTy
    go_wp2
    go_ret2
    exact ⟨rfl, hb1⟩
  | long h h1 h3 e =>
    rw [hx] at h
    rw [e]
    have e0 : ((txt v).toList == []) = false := ne_nil_text (by rintro rfl; simp at h1)
    have z2 : (200 : Int) < ((txt v).size : Int) := by omega
    generalize txt n = s at *
    generalize txt v = t at *
    have h2 : (x != 5) = false := by unfold bne; rw [h]; rfl
    clear hM hx e hsz hn hv h1 h3
    go_enter Tryz.func7, Tryz.ntmps7
    go_wp2_with (go_at_call 13; fail)
    refine (hTy _ hT.tt.types).mono ?_
    rintro e w1 ⟨rfl, hb1⟩
    clear hTy
    go_wp2
    go_ret2
    exact ⟨rfl, hb1⟩
  | none h h1 h3 hno e =>
    have hNo := fun w hT => pnormal_text v (by omega) w hT
    rw [hx] at h
    rw [e]
    have e0 : ((txt v).toList == []) = false := ne_nil_text (by rintro rfl; simp at h1)
    have z2 : ¬ (200 : Int) < ((txt v).size : Int) := by omega
    have hno2 : ((normT v).2 != 0) = true := by unfold bne; rw [hno]; rfl
    generalize txt (normT v).1 = X at *
    generalize (normT v).2 = y at *
    generalize txt n = s at *
    generalize txt v = t at *
    have h2 : (x != 5) = false := by unfold bne; rw [h]; rfl
    clear hM hx e hsz hn hv h1 h3
    go_enter Tryz.func7, Tryz.ntmps7
    go_wp2_with (go_at_call 13; fail)
    refine (hTy _ hT.tt.types).mono ?_
    rintro e w1 ⟨rfl, hb1⟩
    go_wp2_with (go_at_call 6; fail)
    refine (hNo _ (hT.below hb1)).mono ?_
    rintro e w2 ⟨rfl, hb2⟩
    have hb3 := hb1.trans (hb2.mono hb1.size)
    clear hb1 hb2 hTy hNo
    go_wp2
    go_ret2
    exact ⟨rfl, hb3⟩
  | name h h1 h3 u hno e =>
    have hNo := fun w hT => pnormal_text v (by omega) w hT
    rw [hno] at hNo
    rw [hx] at h
    rw [e]
    have e0 : ((txt v).toList == []) = false := ne_nil_text (by rintro rfl; simp at h1)
    have z2 : ¬ (200 : Int) < ((txt v).size : Int) := by omega
    simp only at hNo ⊢
    generalize txt u = X at *
    generalize txt n = s at *
    generalize txt v = t at *
    have h2 : (x != 5) = false := by unfold bne; rw [h]; rfl
    clear hM hx e hsz hn hv h1 h3 hno
    go_enter Tryz.func7, Tryz.ntmps7
    go_wp2_with (go_at_call 13; fail)
    refine (hTy _ hT.tt.types).mono ?_
    rintro e w1 ⟨rfl, hb1⟩
    go_wp2_with (go_at_call 6; fail)
    refine (hNo _ (hT.below hb1)).mono ?_
    rintro e w2 ⟨rfl, hb2⟩
    have hb3 := hb1.trans (hb2.mono hb1.size)
    clear hb1 hb2 hTy hNo
    go_wp2
    go_ret2
    exact ⟨rfl, hb3⟩

end Go.Proofs.YtmidjagjgipabaaGreatDoor
