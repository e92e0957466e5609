/-
  A stream in pieces is as one in one piece; and what the document's own reckoning of a whole stream says of it. No model is spoken of here.
-/
import Derived.Test.YtgdaangbgmmgmaaFrameField
namespace Go.Proofs.Ytgdaangbgmmgmaa.Frame
open Go.RowKit Go.Proofs.Ytgdaangbgmmgmaa.Ber

/-- The pieces one behind the other. -/
def feedAll (M : Nat) : CS → List (List UInt8) → Out
  | s, [] => ([], 0, s)
  | s, p :: ps => if (feedOf M s p).2.1 = 0 then pre (feedOf M s p).1 (feedAll M (feedOf M s p).2.2 ps) else feedOf M s p

theorem feedAll_run (M : Nat) : ∀ (ps : List (List UInt8)) (s : CS), Ok M s → s.st ≠ 4 → feedAll M s ps = run M s ps.flatten
  | [], s, _, _ => rfl
  | p :: ps, s, hs, h4 => by
    have e : feedOf M s p = run M s p := if_neg h4
    rw [feedAll, e, List.flatten_cons, run_append]
    by_cases h0 : (run M s p).2.1 = 0
    · obtain ⟨_, k2⟩ := run_keeps M p s hs h4 h0
      rw [if_pos h0, if_pos h0, feedAll_run M ps _ (run_ok M p s hs) k2]
    · rw [if_neg h0, if_neg h0]

/-- Where the stream ends nothing is remembered. -/
theorem whole_err (M : Nat) (H : List UInt8) (cl : Nat) (h : (whole M H cl).2.2 ≠ 0) : (whole M H cl).1 = ended := by
  unfold whole at h ⊢
  split at h
  · rename_i h0
    rw [if_pos h0]
  · split at h <;> simp at h

theorem byte_err (M : Nat) (s : CS) (b : UInt8) (hs : Ok M s) (h : (byte M s b).2.2 ≠ 0) : (byte M s b).1 = ended := by
  obtain ⟨st, H, ll, cl⟩ := s
  rcases hs with e | e | ⟨h1, _⟩ | ⟨h1, _⟩ | e
  · injection e with e1 e2 e3 e4
    subst e1
    rw [byte0] at h ⊢
    split
    · rename_i hb
      rw [if_pos hb] at h
      simp at h
    · rfl
  · injection e with e1 e2 e3 e4
    subst e1
    rw [byte1] at h ⊢
    split
    · rename_i hb
      rw [if_pos hb] at h
      exact whole_err _ _ _ h
    · rename_i hb
      rw [if_neg hb] at h
      split
      · rename_i hc
        rw [if_pos hc] at h
        simp at h
      · rfl
  · simp only at h1
    subst h1
    rw [byte2] at h ⊢
    split
    · rename_i hb
      rw [if_pos hb] at h
      exact whole_err _ _ _ h
    · rename_i hb
      rw [if_neg hb] at h
      simp at h
  · simp only at h1
    subst h1
    rw [byte3] at h ⊢
    split at h <;> simp at h
  · rw [e, byte4]

theorem run_err (M : Nat) : ∀ (p : List UInt8) (s : CS), Ok M s → (run M s p).2.1 ≠ 0 → (run M s p).2.2 = ended
  | [], s, _, h => by simp [run] at h
  | b :: r, s, hs, h => by
    by_cases h0 : (byte M s b).2.2 = 0
    · simp only [run, if_pos h0] at h ⊢
      exact run_err M r _ (byte_ok M s b hs) h
    · simp only [run, if_neg h0] at h ⊢
      exact byte_err M s b hs h0

/-! ### The document's own steps -/
theorem head_tag (r : List UInt8) : headOf (48 :: r) = if (cutLen r).2.2 ≠ 0 then (0, 0, (cutLen r).2.2) else (1 + (cutLen r).2.1, (cutLen r).1, 0) := by
  rw [headOf, if_neg (by decide)]

/-- What waits is all that came. -/
theorem waits (M : Nat) (p : List UInt8) (h : (run M fresh p).2.1 = 0) (h1 : (run M fresh p).1 = []) : (run M fresh p).2.2.buf = p ∧ (run M fresh p).2.2.st ≠ 4 := by
  obtain ⟨k1, k2⟩ := run_keeps M p fresh (.inl rfl) (by simp [fresh]) h
  rw [h1] at k1
  exact ⟨by simpa [fresh] using k1, k2⟩

/-- The lengths that are none. -/
theorem step_bad (M : Nat) (r : List UInt8) (h : (headOf (48 :: r)).2.2 = 2) : run M fresh (48 :: r) = ([], 2, ended) := by
  rw [head_tag] at h
  rw [tag_good]
  match r with
  | [] => simp [cutLen] at h
  | f :: r =>
    by_cases h1 : f.toNat < 128
    · simp [cutLen, h1] at h
    · by_cases h2 : f.toNat - 128 < 1 ∨ 4 < f.toNat - 128
      · exact length_bad _ _ _ (by omega) (by omega)
      · by_cases h3 : r.length < f.toNat - 128
        · simp only [cutLen, if_neg h1, if_neg h2, if_pos h3] at h
          simp at h
        · simp only [cutLen, if_neg h1, if_neg h2, if_neg h3] at h
          simp at h

theorem head_cases (r : List UInt8) : (headOf (48 :: r)).2.2 = 0 ∨ (headOf (48 :: r)).2.2 = 2 ∨ (headOf (48 :: r)).2.2 = 5 := by
  rw [head_tag]
  match r with
  | [] => simp [cutLen]
  | f :: r =>
    by_cases h1 : f.toNat < 128
    · simp [cutLen, h1]
    · by_cases h2 : f.toNat - 128 < 1 ∨ 4 < f.toNat - 128
      · simp only [cutLen, if_neg h1, if_pos h2]
        simp
      · by_cases h3 : r.length < f.toNat - 128
        · simp only [cutLen, if_neg h1, if_neg h2, if_pos h3]
          simp
        · simp only [cutLen, if_neg h1, if_neg h2, if_neg h3]
          simp

/-- A head that isn't whole. -/
theorem step_lacks (M : Nat) (r : List UInt8) (h : (headOf (48 :: r)).2.2 = 5) : (run M fresh (48 :: r)).1 = [] ∧ (run M fresh (48 :: r)).2.1 = 0 := by
  rw [head_tag] at h
  rw [tag_good]
  match r with
  | [] => simp [run]
  | f :: r =>
    by_cases h1 : f.toNat < 128
    · simp [cutLen, h1] at h
    · by_cases h2 : f.toNat - 128 < 1 ∨ 4 < f.toNat - 128
      · simp only [cutLen, if_neg h1, if_pos h2] at h
        simp at h
      · by_cases h3 : r.length < f.toNat - 128
        · rw [length_long _ _ _ (by omega) (by omega), lrun_less _ _ _ _ _ h3]
          exact ⟨rfl, rfl⟩
        · simp only [cutLen, if_neg h1, if_neg h2, if_neg h3] at h
          simp at h

/-- A head that is whole: what stands behind it is read as content. -/
theorem step_head (M : Nat) (r : List UInt8) (h : (headOf (48 :: r)).2.2 = 0) :
    (headOf (48 :: r)).1 ≤ (48 :: r).length ∧ 2 ≤ (headOf (48 :: r)).1 ∧
    run M fresh (48 :: r) = cont M (whole M ((48 :: r).take (headOf (48 :: r)).1) (headOf (48 :: r)).2.1) ((48 :: r).drop (headOf (48 :: r)).1) := by
  rw [head_tag] at h ⊢
  rw [tag_good]
  match r with
  | [] => simp [cutLen] at h
  | f :: r =>
    by_cases h1 : f.toNat < 128
    · have e : cutLen (f :: r) = (f.toNat, 1, 0) := by rw [cutLen, if_pos h1]
      rw [e, length_short _ _ _ (by omega)]
      simp only [ne_eq, not_true_eq_false, if_false]
      refine ⟨by simp, by omega, ?_⟩
      rw [lrun, if_pos rfl]
      rfl
    · by_cases h2 : f.toNat - 128 < 1 ∨ 4 < f.toNat - 128
      · simp only [cutLen, if_neg h1, if_pos h2] at h
        simp at h
      · by_cases h3 : r.length < f.toNat - 128
        · simp only [cutLen, if_neg h1, if_neg h2, if_pos h3] at h
          simp at h
        · have e : cutLen (f :: r) = (un (r.take (f.toNat - 128)), 1 + (f.toNat - 128), 0) := by rw [cutLen, if_neg h1, if_neg h2, if_neg h3]
          rw [e, length_long _ _ _ (by omega) (by omega), lrun_done _ _ _ _ _ (by omega)]
          simp only [ne_eq, not_true_eq_false, if_false]
          refine ⟨by simp only [List.length_cons]; omega, by omega, ?_⟩
          obtain ⟨k, hk⟩ : ∃ k, k = f.toNat - 128 := ⟨_, rfl⟩
          rw [← hk, show 1 + (1 + k) = k + 1 + 1 by omega, List.take_succ_cons, List.take_succ_cons, List.drop_succ_cons, List.drop_succ_cons, bev_un]
          simp only [List.cons_append, List.nil_append]

theorem step_long (M : Nat) (r : List UInt8) (h : (headOf (48 :: r)).2.2 = 0) (hM : M < (headOf (48 :: r)).1 + (headOf (48 :: r)).2.1) : run M fresh (48 :: r) = ([], 4, ended) := by
  obtain ⟨h1, h2, h3⟩ := step_head M r h
  rw [h3, whole_long _ _ _ _ (by rw [List.length_take]; omega)]

theorem step_waits (M : Nat) (r : List UInt8) (h : (headOf (48 :: r)).2.2 = 0) (hM : ¬ M < (headOf (48 :: r)).1 + (headOf (48 :: r)).2.1) (hl : (48 :: r).length < (headOf (48 :: r)).1 + (headOf (48 :: r)).2.1) :
    (run M fresh (48 :: r)).1 = [] ∧ (run M fresh (48 :: r)).2.1 = 0 := by
  obtain ⟨h1, h2, h3⟩ := step_head M r h
  rw [h3, whole_fits _ _ _ _ (by rw [List.length_take]; omega), crun_less _ _ _ _ (by rw [List.length_drop]; omega)]
  exact ⟨rfl, rfl⟩

theorem step_takes (M : Nat) (r : List UInt8) (k : Nat) (h : (headOf (48 :: r)).2.2 = 0) (hk : (headOf (48 :: r)).1 + (headOf (48 :: r)).2.1 = k) (hM : ¬ M < k) (hl : ¬ (48 :: r).length < k) :
    run M fresh (48 :: r) = pre [(48 :: r).take k] (run M fresh ((48 :: r).drop k)) := by
  obtain ⟨h1, h2, h3⟩ := step_head M r h
  rw [h3, whole_fits _ _ _ _ (by rw [List.length_take]; omega), crun_done _ _ _ _ (by rw [List.length_drop]; omega), List.drop_drop, ← List.take_add, hk]

end Go.Proofs.Ytgdaangbgmmgmaa.Frame
