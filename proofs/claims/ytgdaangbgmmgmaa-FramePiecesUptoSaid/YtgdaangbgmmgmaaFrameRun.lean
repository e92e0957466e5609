/-
  The cutter as a machine over bytes: one byte after the other; and what its four parts make of a piece. No model is spoken of here.
-/
import Derived.Test.YtgdaangbgmmgmaaFrameLen
namespace Go.Proofs.Ytgdaangbgmmgmaa.Frame
open Go.RowKit

/-- What a cutter remembers. -/
structure CS where
  st : Nat
  buf : List UInt8
  ll : Nat
  cl : Nat
deriving DecidableEq

def fresh : CS := ⟨0, [], 0, 0⟩
def ended : CS := ⟨4, [], 0, 0⟩

abbrev Out := List (List UInt8) × Int × CS

def pre (L : List (List UInt8)) (o : Out) : Out := (L ++ o.1, o.2.1, o.2.2)

theorem pre_nil (o : Out) : pre [] o = o := by simp [pre]
theorem pre_pre (L M : List (List UInt8)) (o : Out) : pre L (pre M o) = pre (L ++ M) o := by simp [pre]

/-- Behind a length that is whole. -/
def whole (M : Nat) (H : List UInt8) (cl : Nat) : CS × List (List UInt8) × Int :=
  if M < H.length + cl then (ended, [], 4) else if cl = 0 then (fresh, [H], 0) else (⟨3, H, 0, cl⟩, [], 0)

/-- One byte. -/
def byte (M : Nat) (s : CS) (b : UInt8) : CS × List (List UInt8) × Int :=
  if s.st = 0 then (if b = 48 then (⟨1, [48], 0, 0⟩, [], 0) else (ended, [], 2))
  else if s.st = 1 then (if b.toNat ≤ 127 then whole M [48, b] b.toNat else if 129 ≤ b.toNat ∧ b.toNat ≤ 132 then (⟨2, [48, b], b.toNat - 128, 0⟩, [], 0) else (ended, [], 2))
  else if s.st = 2 then (if s.ll = 1 then whole M (s.buf ++ [b]) (s.cl * 256 + b.toNat) else (⟨2, s.buf ++ [b], s.ll - 1, s.cl * 256 + b.toNat⟩, [], 0))
  else if s.st = 3 then (if s.cl = 1 then (fresh, [s.buf ++ [b]], 0) else (⟨3, s.buf ++ [b], 0, s.cl - 1⟩, [], 0))
  else (s, [], 6)

theorem byte0 (M : Nat) (H : List UInt8) (ll cl : Nat) (b : UInt8) : byte M ⟨0, H, ll, cl⟩ b = if b = 48 then (⟨1, [48], 0, 0⟩, [], 0) else (ended, [], 2) := rfl
theorem byte1 (M : Nat) (H : List UInt8) (ll cl : Nat) (b : UInt8) : byte M ⟨1, H, ll, cl⟩ b =
    if b.toNat ≤ 127 then whole M [48, b] b.toNat else if 129 ≤ b.toNat ∧ b.toNat ≤ 132 then (⟨2, [48, b], b.toNat - 128, 0⟩, [], 0) else (ended, [], 2) := rfl
theorem byte2 (M : Nat) (H : List UInt8) (ll cl : Nat) (b : UInt8) : byte M ⟨2, H, ll, cl⟩ b =
    if ll = 1 then whole M (H ++ [b]) (cl * 256 + b.toNat) else (⟨2, H ++ [b], ll - 1, cl * 256 + b.toNat⟩, [], 0) := rfl
theorem byte3 (M : Nat) (H : List UInt8) (ll cl : Nat) (b : UInt8) : byte M ⟨3, H, ll, cl⟩ b = if cl = 1 then (fresh, [H ++ [b]], 0) else (⟨3, H ++ [b], 0, cl - 1⟩, [], 0) := rfl
theorem byte4 (M : Nat) (b : UInt8) : byte M ended b = (ended, [], 6) := rfl

def run (M : Nat) : CS → List UInt8 → Out
  | s, [] => ([], 0, s)
  | s, b :: r => if (byte M s b).2.2 = 0 then pre (byte M s b).2.1 (run M (byte M s b).1 r) else ((byte M s b).2.1, (byte M s b).2.2, (byte M s b).1)

/-- What a cutter answers to a piece. -/
def feedOf (M : Nat) (s : CS) (p : List UInt8) : Out := if s.st = 4 then ([], 6, s) else run M s p

theorem run_append (M : Nat) (q : List UInt8) : ∀ (p : List UInt8) (s : CS), run M s (p ++ q) = if (run M s p).2.1 = 0 then pre (run M s p).1 (run M (run M s p).2.2 q) else run M s p
  | [], s => by simp [run, pre_nil]
  | b :: r, s => by
    rw [List.cons_append]
    by_cases h : (byte M s b).2.2 = 0
    · simp only [run, if_pos h]
      rw [run_append M q r]
      by_cases h2 : (run M (byte M s b).1 r).2.1 = 0
      · rw [if_pos h2, if_pos (show (pre _ _).2.1 = 0 from h2), pre_pre]
        rfl
      · rw [if_neg h2, if_neg (show ¬ (pre _ _).2.1 = 0 from h2)]
    · simp only [run, if_neg h]

/-! ### The parts -/
def cont (M : Nat) (x : CS × List (List UInt8) × Int) (p : List UInt8) : Out := if x.2.2 = 0 then pre x.2.1 (run M x.1 p) else (x.2.1, x.2.2, x.1)
def lrun (M : Nat) (H : List UInt8) (ll cl : Nat) (p : List UInt8) : Out := if ll = 0 then cont M (whole M H cl) p else run M ⟨2, H, ll, cl⟩ p
def crun (M : Nat) (H : List UInt8) (cl : Nat) (p : List UInt8) : Out := if cl = 0 then pre [H] (run M fresh p) else run M ⟨3, H, 0, cl⟩ p

theorem tag_bad (M : Nat) (b : UInt8) (r : List UInt8) (h : b ≠ 48) : run M fresh (b :: r) = ([], 2, ended) := by
  simp [run, byte, fresh, h]
theorem tag_good (M : Nat) (r : List UInt8) : run M fresh (48 :: r) = run M ⟨1, [48], 0, 0⟩ r := by
  simp [run, byte, fresh, pre_nil]
theorem length_short (M : Nat) (b : UInt8) (r : List UInt8) (h : b.toNat ≤ 127) : run M ⟨1, [48], 0, 0⟩ (b :: r) = lrun M [48, b] 0 b.toNat r := by
  simp [run, byte, lrun, cont, h]
theorem length_long (M : Nat) (b : UInt8) (r : List UInt8) (h : 129 ≤ b.toNat) (h2 : b.toNat ≤ 132) : run M ⟨1, [48], 0, 0⟩ (b :: r) = lrun M [48, b] (b.toNat - 128) 0 r := by
  have h0 : ¬ b.toNat ≤ 127 := by omega
  have h1 : b.toNat - 128 ≠ 0 := by omega
  simp only [run, byte, lrun, h0, h, h2, h1, if_false, if_true, and_self]
  simp [pre_nil]
theorem length_bad (M : Nat) (b : UInt8) (r : List UInt8) (h : 127 < b.toNat) (h2 : ¬ (129 ≤ b.toNat ∧ b.toNat ≤ 132)) : run M ⟨1, [48], 0, 0⟩ (b :: r) = ([], 2, ended) := by
  have h0 : ¬ b.toNat ≤ 127 := by omega
  simp only [run, byte, h0, h2, if_false]
  simp

theorem whole_long (M : Nat) (H : List UInt8) (cl : Nat) (p : List UInt8) (h : M < H.length + cl) : cont M (whole M H cl) p = ([], 4, ended) := by
  simp [cont, whole, h]
theorem whole_fits (M : Nat) (H : List UInt8) (cl : Nat) (p : List UInt8) (h : ¬ M < H.length + cl) : cont M (whole M H cl) p = crun M H cl p := by
  unfold cont whole crun
  rw [if_neg h]
  by_cases h0 : cl = 0
  · simp [h0]
  · simp [h0, pre_nil]

theorem bev_cons (s : Nat) (b : UInt8) (l : List UInt8) : bev s (b :: l) = bev (s * 256 + b.toNat) l := rfl

theorem lrun_less (M : Nat) : ∀ (p H : List UInt8) (ll cl : Nat), p.length < ll → lrun M H ll cl p = ([], 0, ⟨2, H ++ p, ll - p.length, bev cl p⟩)
  | [], H, ll, cl, h => by
    have h0 : ll ≠ 0 := by simp at h; omega
    simp [lrun, h0, run, bev]
  | b :: r, H, ll, cl, h => by
    simp only [List.length_cons] at h
    have ih := lrun_less M r (H ++ [b]) (ll - 1) (cl * 256 + b.toNat) (by omega)
    have h0 : ll ≠ 0 := by omega
    have h1 : ll ≠ 1 := by omega
    have h2 : ll - 1 ≠ 0 := by omega
    unfold lrun at ih ⊢
    rw [if_neg h2] at ih
    rw [if_neg h0, run, byte2, if_neg h1, if_pos rfl, ih, bev_cons, pre_nil]
    simp only [List.length_cons, List.append_assoc, List.cons_append, List.nil_append]
    rw [show ll - 1 - r.length = ll - (r.length + 1) by omega]

theorem lrun_done (M : Nat) : ∀ (ll : Nat) (p H : List UInt8) (cl : Nat), ll ≤ p.length → lrun M H ll cl p = cont M (whole M (H ++ p.take ll) (bev cl (p.take ll))) (p.drop ll)
  | 0, p, H, cl, _ => by simp [lrun, bev]
  | ll + 1, [], H, cl, h => by simp at h
  | ll + 1, b :: r, H, cl, h => by
    simp only [List.length_cons] at h
    have ih := lrun_done M ll r (H ++ [b]) (cl * 256 + b.toNat) (by omega)
    rw [List.take_succ_cons, List.drop_succ_cons, bev_cons, show H ++ b :: r.take ll = H ++ [b] ++ r.take ll by simp, ← ih]
    unfold lrun
    rw [if_neg (by omega)]
    by_cases h1 : ll = 0
    · subst h1
      rw [if_pos rfl, run, byte2, if_pos rfl]
      rfl
    · rw [if_neg h1, run, byte2, if_neg (show ¬ ll + 1 = 1 by omega), if_pos rfl, pre_nil]
      rfl

theorem crun_less (M : Nat) : ∀ (p H : List UInt8) (cl : Nat), p.length < cl → crun M H cl p = ([], 0, ⟨3, H ++ p, 0, cl - p.length⟩)
  | [], H, cl, h => by
    have h0 : cl ≠ 0 := by simp at h; omega
    simp [crun, h0, run]
  | b :: r, H, cl, h => by
    simp only [List.length_cons] at h
    have ih := crun_less M r (H ++ [b]) (cl - 1) (by omega)
    have h0 : cl ≠ 0 := by omega
    have h1 : cl ≠ 1 := by omega
    have h2 : cl - 1 ≠ 0 := by omega
    unfold crun at ih ⊢
    rw [if_neg h2] at ih
    rw [if_neg h0, run, byte3, if_neg h1, if_pos rfl, ih, pre_nil]
    simp only [List.length_cons, List.append_assoc, List.cons_append, List.nil_append]
    rw [show cl - 1 - r.length = cl - (r.length + 1) by omega]

theorem crun_done (M : Nat) : ∀ (cl : Nat) (p H : List UInt8), cl ≤ p.length → crun M H cl p = pre [H ++ p.take cl] (run M fresh (p.drop cl))
  | 0, p, H, _ => by simp [crun]
  | cl + 1, [], H, h => by simp at h
  | cl + 1, b :: r, H, h => by
    simp only [List.length_cons] at h
    have ih := crun_done M cl r (H ++ [b]) (by omega)
    rw [List.take_succ_cons, List.drop_succ_cons, show H ++ b :: r.take cl = H ++ [b] ++ r.take cl by simp, ← ih]
    unfold crun
    rw [if_neg (by omega)]
    by_cases h1 : cl = 0
    · subst h1
      rw [if_pos rfl, run, byte3, if_pos rfl]
      rfl
    · rw [if_neg h1, run, byte3, if_neg (show ¬ cl + 1 = 1 by omega), if_pos rfl, pre_nil]
      rfl

/-- What a cutter that waits may remember. -/
def Ok (M : Nat) (s : CS) : Prop :=
  s = fresh ∨ s = ⟨1, [48], 0, 0⟩ ∨ (s.st = 2 ∧ 2 ≤ s.buf.length ∧ s.buf.length + s.ll ≤ 6 ∧ 1 ≤ s.ll ∧ s.ll ≤ 4 ∧ s.cl < 256 ^ (4 - s.ll)) ∨
    (s.st = 3 ∧ s.ll = 0 ∧ 2 ≤ s.buf.length ∧ 1 ≤ s.cl ∧ s.buf.length + s.cl ≤ M) ∨ s = ended

theorem whole_ok (M : Nat) (H : List UInt8) (cl : Nat) (h : 2 ≤ H.length) : Ok M (whole M H cl).1 := by
  unfold whole
  split
  · exact .inr (.inr (.inr (.inr rfl)))
  · split
    · exact .inl rfl
    · exact .inr (.inr (.inr (.inl ⟨rfl, rfl, h, by simp only; omega, by simp only; omega⟩)))

theorem byte_ok (M : Nat) (s : CS) (b : UInt8) (h : Ok M s) : Ok M (byte M s b).1 := by
  obtain ⟨st, H, ll, cl⟩ := s
  rcases h with h | h | ⟨h1, h2, h3, h4, h5, h6⟩ | ⟨h1, h2, h3, h4, h5⟩ | h
  · injection h with e1 e2 e3 e4
    subst e1
    rw [byte0]
    split
    · exact .inr (.inl rfl)
    · exact .inr (.inr (.inr (.inr rfl)))
  · injection h with e1 e2 e3 e4
    subst e1
    rw [byte1]
    split
    · exact whole_ok _ _ _ (by simp)
    · split
      · rename_i h0 h1
        exact .inr (.inr (.inl ⟨rfl, by simp, by simp; omega, by simp only; omega, by simp only; omega, Nat.pos_of_ne_zero (by simp)⟩))
      · exact .inr (.inr (.inr (.inr rfl)))
  · simp only at h1 h2 h3 h4 h5 h6
    subst h1
    rw [byte2]
    split
    · exact whole_ok _ _ _ (by simp; omega)
    · refine .inr (.inr (.inl ⟨rfl, by simp; omega, by simp; omega, by simp only; omega, by simp only; omega, ?_⟩))
      have hb := b.toNat_lt
      have e : 256 ^ (4 - (ll - 1)) = 256 ^ (4 - ll) * 256 := by rw [← Nat.pow_succ]; congr 1; omega
      show cl * 256 + b.toNat < 256 ^ (4 - (ll - 1))
      rw [e]
      generalize 256 ^ (4 - ll) = X at *
      omega
  · simp only at h1 h2 h3 h4 h5
    subst h1
    rw [byte3]
    split
    · exact .inl rfl
    · exact .inr (.inr (.inr (.inl ⟨rfl, rfl, by simp; omega, by simp only; omega, by simp; omega⟩)))
  · rw [h, byte4]
    exact .inr (.inr (.inr (.inr rfl)))

theorem run_ok (M : Nat) : ∀ (p : List UInt8) (s : CS), Ok M s → Ok M (run M s p).2.2
  | [], s, h => h
  | b :: r, s, h => by
    simp only [run]
    split
    · exact run_ok M r _ (byte_ok M s b h)
    · exact byte_ok M s b h

theorem feed_ok (M : Nat) (s : CS) (p : List UInt8) (h : Ok M s) : Ok M (feedOf M s p).2.2 := by
  unfold feedOf
  split
  · exact h
  · exact run_ok M p s h

/-- Pieces that come one behind the other are as one. -/
theorem feed_feed (M : Nat) (s : CS) (p q : List UInt8) (h0 : (feedOf M s p).2.1 = 0) (h4 : (feedOf M s p).2.2.st ≠ 4) (hs : s.st ≠ 4) :
    feedOf M s (p ++ q) = pre (feedOf M s p).1 (feedOf M (feedOf M s p).2.2 q) := by
  have e : ∀ x, feedOf M s x = run M s x := fun x => if_neg hs
  rw [e] at h0 h4
  rw [e, e, run_append, if_pos h0]
  unfold feedOf
  rw [if_neg h4]

end Go.Proofs.Ytgdaangbgmmgmaa.Frame
