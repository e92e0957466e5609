/-
  What the machine makes of a field: the field itself, or too long; what stands ahead of a field's end waits.
-/
import Derived.Test.YtgdaangbgmmgmaaFrameRun
namespace Go.Proofs.Ytgdaangbgmmgmaa.Frame
open Go.RowKit Go.Proofs.Ytgdaangbgmmgmaa.Ber

theorem bev_un (l : List UInt8) : bev 0 l = un l := rfl

/-- Behind a field's head. -/
theorem run_head (M : Nat) (l rest : List UInt8) (hl : l.length ≤ 2147483647) :
    run M fresh (fieldOf 48 l ++ rest) = cont M (whole M (48 :: lenOf (l.length : Int)) l.length) (l ++ rest) := by
  have e0 : fieldOf 48 l ++ rest = 48 :: (lenOf (l.length : Int) ++ (l ++ rest)) := by simp [fieldOf]
  rw [e0, tag_good]
  obtain ⟨n, hn⟩ : ∃ n, n = l.length := ⟨_, rfl⟩
  rw [← hn] at hl ⊢
  generalize l ++ rest = q
  unfold lenOf
  rw [if_neg (by omega)]
  by_cases h1 : (n : Int) < 128
  · rw [if_pos h1]
    have e : (UInt8.ofNat (n : Int).toNat).toNat = n := by rw [UInt8.toNat_ofNat', Int.toNat_natCast, Nat.mod_eq_of_lt (by omega)]
    rw [List.singleton_append, length_short _ _ _ (by omega), e, lrun, if_pos rfl]
  · rw [if_neg h1, Int.toNat_natCast]
    have hw := wide_le n
    have e : (UInt8.ofNat (128 + wide n)).toNat = 128 + wide n := by rw [UInt8.toNat_ofNat', Nat.mod_eq_of_lt (by omega)]
    rw [List.cons_append, length_long _ _ _ (by omega) (by omega), e, show 128 + wide n - 128 = wide n by omega, lrun_done _ _ _ _ _ (by rw [List.length_append, be_length]; omega)]
    have ht : (be (wide n) n ++ q).take (wide n) = be (wide n) n := by
      rw [List.take_append_of_le_length (by rw [be_length]; omega), List.take_of_length_le (by rw [be_length]; omega)]
    have hd : (be (wide n) n ++ q).drop (wide n) = q := by
      rw [List.drop_append_of_le_length (by rw [be_length]; omega), List.drop_of_length_le (by rw [be_length]; omega), List.nil_append]
    rw [ht, hd, bev_un, un_be _ _ (wide_fits n (by omega))]
    rfl

theorem fieldOf_eq (l : List UInt8) : 48 :: lenOf (l.length : Int) ++ l = fieldOf 48 l := by simp [fieldOf]

theorem run_field (M : Nat) (l rest : List UInt8) (hl : l.length ≤ 2147483647) (hM : (fieldOf 48 l).length ≤ M) : run M fresh (fieldOf 48 l ++ rest) = pre [fieldOf 48 l] (run M fresh rest) := by
  have hlen : (48 :: lenOf (l.length : Int)).length + l.length = (fieldOf 48 l).length := by rw [← fieldOf_eq, List.length_append]
  rw [run_head M l rest hl, whole_fits _ _ _ _ (by omega), crun_done _ _ _ _ (by rw [List.length_append]; omega)]
  simp only [List.take_left', List.drop_left']
  rw [fieldOf_eq]

theorem run_long (M : Nat) (l rest : List UInt8) (hl : l.length ≤ 2147483647) (hM : M < (fieldOf 48 l).length) : run M fresh (fieldOf 48 l ++ rest) = ([], 4, ended) := by
  have hlen : (48 :: lenOf (l.length : Int)).length + l.length = (fieldOf 48 l).length := by rw [← fieldOf_eq, List.length_append]
  rw [run_head M l rest hl, whole_long _ _ _ _ (by omega)]

/-! ### No byte is lost -/
theorem whole_keeps (M : Nat) (H : List UInt8) (cl : Nat) (h : (whole M H cl).2.2 = 0) : (whole M H cl).2.1.flatten ++ (whole M H cl).1.buf = H ∧ (whole M H cl).1.st ≠ 4 := by
  unfold whole at h ⊢
  split at h
  · simp at h
  · rename_i h0
    rw [if_neg h0]
    split <;> simp [fresh]

theorem byte_keeps (M : Nat) (s : CS) (b : UInt8) (hs : Ok M s) (h4 : s.st ≠ 4) (h : (byte M s b).2.2 = 0) : (byte M s b).2.1.flatten ++ (byte M s b).1.buf = s.buf ++ [b] ∧ (byte M s b).1.st ≠ 4 := by
  obtain ⟨st, H, ll, cl⟩ := s
  rcases hs with e | e | ⟨h1, _⟩ | ⟨h1, _⟩ | e
  · injection e with e1 e2 e3 e4
    subst e1 e2
    rw [byte0] at h ⊢
    split
    · rename_i hb
      subst hb
      simp
    · rename_i hb
      rw [if_neg hb] at h
      simp at h
  · injection e with e1 e2 e3 e4
    subst e1 e2
    rw [byte1] at h ⊢
    split
    · rename_i hb
      rw [if_pos hb] at h
      exact whole_keeps M [48, b] _ h
    · rename_i hb
      rw [if_neg hb] at h
      split
      · simp
      · rename_i hc
        rw [if_neg hc] at h
        simp at h
  · simp only at h1
    subst h1
    rw [byte2] at h ⊢
    split
    · rename_i hb
      rw [if_pos hb] at h
      exact whole_keeps M (H ++ [b]) _ h
    · simp
  · simp only at h1
    subst h1
    rw [byte3] at h ⊢
    split <;> simp [fresh]
  · injection e with e1
    exact absurd e1 h4

theorem run_keeps (M : Nat) : ∀ (p : List UInt8) (s : CS), Ok M s → s.st ≠ 4 → (run M s p).2.1 = 0 → (run M s p).1.flatten ++ (run M s p).2.2.buf = s.buf ++ p ∧ (run M s p).2.2.st ≠ 4
  | [], s, _, h4, _ => by simp [run, h4]
  | b :: r, s, hs, h4, h => by
    by_cases h0 : (byte M s b).2.2 = 0
    · obtain ⟨k1, k2⟩ := byte_keeps M s b hs h4 h0
      simp only [run, if_pos h0] at h ⊢
      obtain ⟨k3, k4⟩ := run_keeps M r _ (byte_ok M s b hs) k2 h
      refine ⟨?_, k4⟩
      simp only [pre, List.flatten_append, List.append_assoc]
      rw [k3, ← List.append_assoc, k1]
      simp
    · simp only [run, if_neg h0] at h
      exact absurd h h0

/-- A field that isn't whole waits. -/
theorem run_part (M : Nat) (l : List UInt8) (hl : l.length ≤ 2147483647) (hM : (fieldOf 48 l).length ≤ M) (k : Nat) (hk : k < (fieldOf 48 l).length) :
    ∃ s, run M fresh ((fieldOf 48 l).take k) = ([], 0, s) ∧ s.st ≠ 4 ∧ s.buf = (fieldOf 48 l).take k ∧ Ok M s := by
  have hf := run_field M l [] hl hM
  rw [List.append_nil] at hf
  have hf2 : run M fresh (fieldOf 48 l) = ([fieldOf 48 l], 0, fresh) := hf
  have hsplit := run_append M ((fieldOf 48 l).drop k) ((fieldOf 48 l).take k) fresh
  rw [List.take_append_drop, hf2] at hsplit
  have hok := run_ok M ((fieldOf 48 l).take k) fresh (.inl rfl)
  have he : (run M fresh ((fieldOf 48 l).take k)).2.1 = 0 := by
    by_cases h0 : (run M fresh ((fieldOf 48 l).take k)).2.1 = 0
    · exact h0
    · rw [if_neg h0] at hsplit
      rw [← hsplit]
  obtain ⟨k1, k2⟩ := run_keeps M _ fresh (.inl rfl) (by simp [fresh]) he
  rw [if_pos he] at hsplit
  generalize run M fresh ((fieldOf 48 l).take k) = x at *
  obtain ⟨L, e, s⟩ := x
  simp only at he k1 k2 hok hsplit
  subst he
  have hL : L = [] := by
    cases L with
    | nil => rfl
    | cons y ys =>
      have h1 := congrArg (·.1) hsplit
      simp only [pre, List.cons_append, List.cons.injEq] at h1
      have h2 := congrArg List.length k1
      rw [← h1.1] at h2
      simp [fresh] at h2
      omega
  subst hL
  exact ⟨s, rfl, k2, by simpa [fresh] using k1, hok⟩

end Go.Proofs.Ytgdaangbgmmgmaa.Frame
