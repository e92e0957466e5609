/-
  The reference's Normal. By an AI agent.
-/
import Derived.Test.YtedenhfpbabjkaaGreatDoorRNormal
import Derived.Test.YtedenhfpbabjkaaGreatDoorRRInt
import Derived.Test.YtedenhfpbabjkaaGreatDoorParses
namespace Go.Proofs.YtedenhfpbabjkaaGreatDoor
open Go.RowKit
set_option linter.unusedVariables false

theorem rparse_yes (s : ByteArray) (hs : s.size ≤ 281474976710656) (a b : Int) (ha : Small a) (hb : Small b) (h : s.data.toList = text a b) (w : World) (hT : Tabs w) :
    Calls Tryz.prog 25 #[.string s] w fun e w' => e = .returned (.tuple #[.agg #[.int .i64 a, .int .i64 b], .int .i64 0]) ∧ Below w.heap.size w w' := by
  refine (rparse_any s hs w hT).mono ?_
  intro en w' hh
  obtain ⟨p, q, f, rfl, hf, hbl⟩ := hh.out
  rcases hf with ⟨rfl, hp, hq, e2⟩ | ⟨_, _, _, hn⟩
  · obtain ⟨rfl, rfl⟩ := text_inj ha hb hp hq (h.symm.trans e2)
    exact ⟨rfl, hbl⟩
  · exact absurd ⟨a, b, ha, hb, h⟩ hn

theorem rparse_no (s : ByteArray) (hs : s.size ≤ 281474976710656) (h : ¬ IsText s) (w : World) (hT : Tabs w) :
    Calls Tryz.prog 25 #[.string s] w fun e w' => e = .returned (.tuple #[.agg #[.int .i64 0, .int .i64 0], .int .i64 2]) ∧ Below w.heap.size w w' := by
  refine (rparse_any s hs w hT).mono ?_
  intro en w' hh
  obtain ⟨p, q, f, rfl, hf, hbl⟩ := hh.out
  rcases hf with ⟨rfl, hp, hq, e2⟩ | ⟨rfl, rfl, rfl, _⟩
  · exact absurd ⟨p, q, hp, hq, e2⟩ h
  · exact ⟨rfl, hbl⟩

set_option maxRecDepth 100000 in
set_option maxHeartbeats 16000000 in
theorem rnormal_any (n v : ByteArray) (hn48 : n.size ≤ 281474976710656) (hv : v.size ≤ 281474976710656) (w : World) (hT : TT w) :
    Calls Tryz.prog 34 #[.string n, .string v] w fun e w' => e = .returned (.tuple #[.string (txt (norm n.data.toList v.data.toList).1), .int .i64 (norm n.data.toList v.data.toList).2]) ∧ Below w.heap.size w w' := by
  have hTy := fun w => rtype_any n hn48 w
  have hN := fun h w => rtexts_any v h w
  have hiy := fun m h w => rinteger_yes v m h w
  have hin := fun h w => rinteger_no v h w
  have hpy := fun a b ha hb h w hT => rparse_yes v hv a b ha hb h w hT
  have hpn := fun h w hT => rparse_no v hv h w hT
  have hsz := Lib.size_eq v
  have hR := road n.data.toList v.data.toList
  have hself : txt v.data.toList = v := (data_cell v _ rfl).symm
  have hit : IsText v ↔ ∃ a b, Small a ∧ Small b ∧ v.data.toList = text a b := Iff.rfl
  generalize hl : v.data.toList = l at *
  generalize hn : n.data.toList = m at *
  obtain ⟨X, hX⟩ : ∃ X, txt (typ m).1 = X := ⟨_, rfl⟩
  simp only [hX] at hTy
  obtain ⟨x, hx⟩ : ∃ x, (typ m).2 = x := ⟨_, rfl⟩
  simp only [hx] at hTy
  have hlT := fun w1 (h : Below w.heap.size w w1) => (hT.below h).tabs
  cases hR with
  | none h r =>
    obtain rfl : x = 0 := by omega
    rw [r]
    clear hN hiy hin hpy hpn hself hit hX hx h r
    go_enter Tryz.func34, Tryz.ntmps34
    go_wp2_with (go_at_call 23; fail)
    refine (hTy _).mono ?_
    rintro e w1 ⟨rfl, hb1⟩
    go_wp2
    go_ret2
    exact ⟨rfl, hb1⟩
  | name h r =>
    obtain rfl : x = 5 := by omega
    rw [r]
    clear hN hiy hin hpy hpn hself hit hX hx h r
    go_enter Tryz.func34, Tryz.ntmps34
    go_wp2_with (go_at_call 23; fail)
    refine (hTy _).mono ?_
    rintro e w1 ⟨rfl, hb1⟩
    go_wp2
    go_ret2
    exact ⟨rfl, hb1⟩
  | short h k r =>
    rw [hx] at h
    obtain ⟨e0, e5⟩ := int_cases h
    have hk : ((v.size : Int) < 1) := by omega
    rw [r]
    clear hN hiy hin hpy hpn hself hit hX hx h r
    go_enter Tryz.func34, Tryz.ntmps34
    go_wp2_with (go_at_call 23; fail)
    refine (hTy _).mono ?_
    rintro e w1 ⟨rfl, hb1⟩
    go_wp2
    go_ret2
    exact ⟨rfl, hb1⟩
  | long h k r =>
    rw [hx] at h
    obtain ⟨e0, e5⟩ := int_cases h
    have hk : ¬ ((v.size : Int) < 1) := by omega
    have hk2 : ((200 : Int) < (v.size : Int)) := by omega
    rw [r]
    clear hN hiy hin hpy hpn hself hit hX hx h r
    go_enter Tryz.func34, Tryz.ntmps34
    go_wp2_with (go_at_call 23; fail)
    refine (hTy _).mono ?_
    rintro e w1 ⟨rfl, hb1⟩
    go_wp2
    go_ret2
    exact ⟨rfl, hb1⟩
  | form h k f r =>
    rw [hx] at h f
    have hk : ¬ ((v.size : Int) < 1) := by omega
    have hk2 : ¬ ((200 : Int) < (v.size : Int)) := by omega
    rw [r]
    have h4 : x = 1 ∨ x = 2 ∨ x = 3 ∨ x = 4 := by omega
    rcases h4 with rfl | rfl | rfl | rfl
    · have hNo := fun w => hN (by omega) w
      have he : (txt (rtxt l)).toList.isEmpty = true := by
        rw [txt_bytes]
        unfold rtxt
        by_cases h0 : (0 : UInt8) ∈ l
        · rw [if_pos h0]; rfl
        · rw [if_neg h0]
          by_cases h1 : nt l = []
          · rw [h1]; rfl
          · exact absurd ⟨fun _ => ⟨h0, h1⟩, fun e => (by omega), fun e => (by omega)⟩ f
      generalize txt (rtxt l) = Y at *
      clear hN hiy hin hpy hpn hself hit hX hx h r f
      go_enter Tryz.func34, Tryz.ntmps34
      go_wp2_with (go_at_call 23; fail)
      refine (hTy _).mono ?_
      rintro e w1 ⟨rfl, hb1⟩
      go_wp2_with (go_at_call 56; fail)
      refine (hNo _).mono ?_
      rintro e w2 ⟨rfl, hb2⟩
      go_wp2
      go_ret2
      exact ⟨rfl, hb1.trans (hb2.mono hb1.size)⟩
    · exact absurd ⟨fun e => (by omega), fun e => (by omega), fun e => (by omega)⟩ f
    · have hI := fun w => hin (fun q hq => f ⟨fun e => (by omega), fun _ => ⟨q, hq⟩, fun e => (by omega)⟩) w
      clear hN hiy hin hpy hpn hself hit hX hx h r f
      go_enter Tryz.func34, Tryz.ntmps34
      go_wp2_with (go_at_call 23; fail)
      refine (hTy _).mono ?_
      rintro e w1 ⟨rfl, hb1⟩
      go_wp2_with (go_at_call 24; fail)
      refine (hI _).mono ?_
      rintro e w2 ⟨rfl, hb2⟩
      go_wp2
      go_ret2
      exact ⟨rfl, hb1.trans (hb2.mono hb1.size)⟩
    · have hP := fun w hT => hpn (fun q => f ⟨fun e => (by omega), fun e => (by omega), fun _ => hit.1 q⟩) w hT
      clear hN hiy hin hpy hpn hself hit hX hx h r f
      go_enter Tryz.func34, Tryz.ntmps34
      go_wp2_with (go_at_call 23; fail)
      refine (hTy _).mono ?_
      rintro e w1 ⟨rfl, hb1⟩
      go_wp2_with (go_at_call 25; fail)
      refine (hP _ (hlT _ hb1)).mono ?_
      rintro e w2 ⟨rfl, hb2⟩
      go_wp2
      go_ret2
      have hb12 := hb1.trans (hb2.mono hb1.size)
      exact ⟨rfl, hb12.trans ((below1 w2 _).mono hb12.size)⟩
  | text h k f r =>
    obtain rfl : x = 1 := by omega
    rw [h] at f
    have hk : ¬ ((v.size : Int) < 1) := by omega
    have hk2 : ¬ ((200 : Int) < (v.size : Int)) := by omega
    have hNo := fun w => hN (by omega) w
    obtain ⟨h0, h1⟩ := f.tx rfl
    have hrt : rtxt l = nt l := by unfold rtxt; rw [if_neg h0]
    simp only [hrt] at hNo
    have he : (txt (nt l)).toList.isEmpty = false := by rw [txt_bytes]; simpa using h1
    rw [r]
    simp only
    generalize txt (nt l) = Y at *
    clear hN hiy hin hpy hpn hself hit hX hx h r f h0 h1 hrt
    go_enter Tryz.func34, Tryz.ntmps34
    go_wp2_with (go_at_call 23; fail)
    refine (hTy _).mono ?_
    rintro e w1 ⟨rfl, hb1⟩
    go_wp2_with (go_at_call 56; fail)
    refine (hNo _).mono ?_
    rintro e w2 ⟨rfl, hb2⟩
    go_wp2
    go_ret2
    exact ⟨rfl, hb1.trans (hb2.mono hb1.size)⟩
  | same h k f r =>
    rw [hx] at h f
    have hk : ¬ ((v.size : Int) < 1) := by omega
    have hk2 : ¬ ((200 : Int) < (v.size : Int)) := by omega
    rw [r]
    simp only
    rw [hself]
    have h4 : x = 2 ∨ x = 3 ∨ x = 4 := by omega
    rcases h4 with rfl | rfl | rfl
    · clear hN hiy hin hpy hpn hself hit hX hx h r f
      go_enter Tryz.func34, Tryz.ntmps34
      go_wp2_with (go_at_call 23; fail)
      refine (hTy _).mono ?_
      rintro e w1 ⟨rfl, hb1⟩
      go_wp2
      go_ret2
      exact ⟨rfl, hb1⟩
    · obtain ⟨q, hq⟩ := f.nu rfl
      have hI := fun w => hiy q hq w
      clear hN hiy hin hpy hpn hself hit hX hx h r f hq
      go_enter Tryz.func34, Tryz.ntmps34
      go_wp2_with (go_at_call 23; fail)
      refine (hTy _).mono ?_
      rintro e w1 ⟨rfl, hb1⟩
      go_wp2_with (go_at_call 24; fail)
      refine (hI _).mono ?_
      rintro e w2 ⟨rfl, hb2⟩
      go_wp2
      go_ret2
      exact ⟨rfl, hb1.trans (hb2.mono hb1.size)⟩
    · obtain ⟨a, b, ha, hb, hq⟩ := f.pl rfl
      have hP := fun w hT => hpy a b ha hb hq w hT
      clear hN hiy hin hpy hpn hself hit hX hx h r f hq
      go_enter Tryz.func34, Tryz.ntmps34
      go_wp2_with (go_at_call 23; fail)
      refine (hTy _).mono ?_
      rintro e w1 ⟨rfl, hb1⟩
      go_wp2_with (go_at_call 25; fail)
      refine (hP _ (hlT _ hb1)).mono ?_
      rintro e w2 ⟨rfl, hb2⟩
      go_wp2
      go_ret2
      have hb12 := hb1.trans (hb2.mono hb1.size)
      exact ⟨rfl, hb12.trans ((below1 w2 _).mono hb12.size)⟩

end Go.Proofs.YtedenhfpbabjkaaGreatDoor
