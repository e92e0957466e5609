/-
  'Feed', the tag; and the whole: what it answers to any piece.
-/
import Derived.Test.YtgdaangbgmmgmaaFrameSegs
namespace Go.Proofs.Ytgdaangbgmmgmaa.Frame
open Go.RowKit

set_option maxRecDepth 100000 in
set_option maxHeartbeats 3200000 in
theorem seg3 (w0 : World) (g : Nat) (m : Int) (M : Nat) (R : Out) (N Lc : Nat) (st : Int) (p : List UInt8) (L : List (List UInt8)) (a : Act) (w : World) (hg : g < w0.heap.size)
    (h : At w0 g m st [] 0 0 p L a w) (hL : L.length ≤ 1000000000000) (hMm : (if m = 0 then 16384 else m) = (M : Int)) (hM16 : M ≤ 16384)
    (hR : R = pre L (run M fresh p)) (hN : 2 * p.length ≤ N) (hLc : L.length + 1 ≤ Lc) :
    (fx 3).wp Try.prog (Leaves w0 g m M R N Lc) a w := by
  obtain ⟨⟨u, rfl, hu0, ⟨A, n, c, hu1, hoff, hnc, hcm⟩, hM⟩, hcut, hnear⟩ := h
  rw [hu0, hu1]
  have hp2 := hoff.1
  rw [bys_length] at hp2
  have c1 := hcut.state
  have f1 := hcut.frozen 1
  have hc3 := hcut.setState 0
  have hn3 := Near.setCell g 1 w (.int .u8 0)
  have hn3' := hnear.trans hn3
  have hM3 := hM.near hn3 hg
  rcases p with _ | ⟨b, r⟩
  · obtain rfl : n = 0 := by simpa using hp2.symm
    have HC := hide hc3
    have HM := hide hM3
    have HN := hide hn3'
    have HRR := hide hR
    clear hc3 hn3 hn3' hM3 hM hcut hnear hu0 hu1 hR
    simp only [fx, fc, Try.f18, findLabel, Nat.reduceBEq, Bool.false_eq_true, ↓reduceIte]
    go_wp2
    unfold Leaves
    simp only [Exit.jumps]
    go_ret2
    refine ⟨u 6, m, ?_, ?_, fun _ => rfl, ?_, HN.out⟩
    · rw [HRR.out]; rfl
    · rw [HRR.out]; simpa [pre, run] using HM.out
    · rw [HRR.out]; exact HC.out
  · obtain ⟨gp, o, rfl, hcell⟩ := (hoff.near hn3').head
    have hb := b.toNat_lt
    obtain ⟨x, hx⟩ : ∃ x, x = b.toNat := ⟨_, rfl⟩
    rw [← hx] at hcell hb
    simp only [List.length_cons] at hp2 hN
    have hn0 : 0 < n := by omega
    have hc0 : 0 < c := by omega
    obtain ⟨N', hNN⟩ : ∃ N', N' = n - 1 := ⟨_, rfl⟩
    obtain ⟨C', hCC⟩ : ∃ C', C' = c - 1 := ⟨_, rfl⟩
    have hnz : ¬ n = 0 := by omega
    have hni : ¬ (n : Int) = 0 := by omega
    have hh := hold_any _ g m 0 _ _ [] hc3 (some ⟨gp, o, none⟩) n c (b :: r) 1 (hoff.near hn3') (by omega) hnc hcm (by simp) (by simp)
    unfold Held at hh
    rw [← hNN, ← hCC] at hh
    have HEN := hide (end_any _ g _ _ _ _ _ _ hc3)
    have HH := hide hh
    have HM3 := hide hM3
    have HN3 := hide hn3'
    have HRR := hide hR
    have HXX := hide hx
    have HNN := hide hNN
    have HCC := hide hCC
    clear hM hcut hnear hu0 hu1 hR hx hNN hCC hn3' hM3 hh hc3 hn3
    by_cases hs : x = 48
    · subst hs
      have hb48 : b = 48 := UInt8.toNat_inj.1 (by rw [← HXX.out]; rfl)
      clear HEN
      simp only [fx, fc, Try.f18, findLabel, Nat.reduceBEq, Bool.false_eq_true, ↓reduceIte]
      go_wp2_with fail
      refine HH.out.mono ?_
      rintro e w3 ⟨A', rfl, o1, o2, o3⟩
      have HC3 := hide o2
      have HO := hide (o1 w0 hoff)
      have HN4 := hide (HN3.out.trans o3)
      have HM4 := hide (HM3.out.near o3 hg)
      clear o1 o2 o3 HH HN3 HM3
      go_wp2_with fail
      all_goals (try go_step3)
      simp only [Exit.then]
      rename_i K hK
      refine hK _ _ ?_
      refine wp_code (c' := fx 0) ?_ (seg0 w0 g m M R N Lc 0 r L _ w3 hg ?_ hL hMm hM16 ?_ ?_ hLc)
      · simp only [fx, fc, Try.f18, findLabel, Nat.reduceBEq, Bool.false_eq_true, ↓reduceIte]
      · have := HNN.out
        have := HCC.out
        have hc4 := HC3.out
        rw [hb48] at hc4
        exact At.of A' N' C' rfl rfl rfl rfl HO.out (by omega) (by omega) HM4.out hc4 HN4.out
      · rw [HRR.out, hb48, tag_good]
      · omega
    · have hxi : ¬ (x : Int) = 48 := by omega
      have hb48 : b ≠ 48 := fun h => hs (by rw [HXX.out, h]; rfl)
      have hRl : R = pre L ([], 2, ended) := by rw [HRR.out, tag_bad _ _ _ hb48]
      have HRL := hide hRl
      clear hRl HH
      simp only [fx, fc, Try.f18, findLabel, Nat.reduceBEq, Bool.false_eq_true, ↓reduceIte]
      go_wp2_with fail
      refine HEN.out.mono ?_
      rintro e w4 ⟨rfl, q2, q3⟩
      have HC4 := hide q2
      have HN4 := hide (HN3.out.trans q3)
      have HM4 := hide (HM3.out.near q3 hg)
      clear q2 q3 HEN HN3 HM3
      go_wp2
      unfold Leaves
      simp only [Exit.jumps]
      go_ret2
      refine ⟨u 6, 0, ?_, ?_, fun h => absurd ?_ h, ?_, HN4.out⟩
      · rw [HRL.out]; rfl
      · rw [HRL.out]; simpa [pre] using HM4.out
      · rw [HRL.out]; rfl
      · rw [HRL.out]; exact HC4.out

theorem mu_of {w0 : World} {g : Nat} {m st : Int} {H : List UInt8} {ll cl : Nat} {p : List UInt8} {L : List (List UInt8)} {a : Act} {w : World} (h : At w0 g m st H ll cl p L a w) : sliceLen (a.tmps.getD 1 undef) = p.length := by
  obtain ⟨⟨u, rfl, hu0, ⟨A, n, c, hu1, hoff, hnc, hcm⟩, hM⟩, hcut, hnear⟩ := h
  have hp2 := hoff.1
  rw [bys_length] at hp2
  show sliceLen (u 1) = _
  rw [hu1, hp2]
  rfl

/-- What holds at each label. -/
def J (w0 : World) (g : Nat) (m : Int) (M : Nat) (R : Out) (K : Nat) (l : Nat) (a : Act) (w : World) : Prop :=
  ∃ st H ll cl p L, At w0 g m st H ll cl p L a w ∧
    ((l = 3 ∧ H = [] ∧ ll = 0 ∧ cl = 0 ∧ R = pre L (run M fresh p) ∧ L.length + p.length ≤ K) ∨
     (l = 0 ∧ H = [48] ∧ ll = 0 ∧ cl = 0 ∧ R = pre L (run M ⟨1, [48], 0, 0⟩ p) ∧ L.length + p.length + 1 ≤ K) ∨
     (l = 1 ∧ ll ≤ 4 ∧ cl < 256 ^ (4 - ll) ∧ 2 ≤ H.length ∧ H.length + ll ≤ 6 ∧ R = pre L (lrun M H ll cl p) ∧ L.length + p.length + 1 ≤ K) ∨
     (l = 2 ∧ ll = 0 ∧ H.length + cl ≤ 16384 ∧ H.length < 16384 ∧ R = pre L (crun M H cl p) ∧ L.length + p.length + 1 ≤ K))

theorem Leaves.mono {w0 : World} {g : Nat} {m : Int} {M : Nat} {R : Out} {N Lc : Nat} {c : Code} {a : Act} {w : World} {J' : Nat → Act → World → Prop}
    (hj : ∀ st p L a w, At w0 g m st [] 0 0 p L a w → R = pre L (run M fresh p) → 2 * p.length < N → L.length ≤ Lc → J' 3 a w) (h : c.wp Try.prog (Leaves w0 g m M R N Lc) a w) :
    c.wp Try.prog (Exit.jumps J' (bodyPost Try.prog Try.f18 (Fed w0 g m R))) a w := by
  refine Code.wp_mono ?_ h
  intro e a' w' hq
  cases e with
  | goto l =>
    obtain ⟨rfl, st, p, L, h1, h2, h3, h4⟩ := hq
    exact hj st p L a' w' h1 h2 h3 h4
  | _ => exact hq

theorem wp_skip_seq {P : Program} {y : Code} {Q : Exit → Act → World → Prop} {a : Act} {w : World} (h : y.wp P Q a w) : (Code.seq .skip y).wp P Q a w := wp_seq (wp_skip h)

theorem J.pass {w0 : World} {g : Nat} {m : Int} {M : Nat} {R : Out} {K l : Nat} {a : Act} {w : World} (hg : g < w0.heap.size) (hMm : (if m = 0 then 16384 else m) = (M : Int)) (hM16 : M ≤ 16384) (hK : K ≤ 1000000000000) (h : J w0 g m M R K l a w) :
    (fx l).wp Try.prog (Exit.jumps (fun l' a' w' => J w0 g m M R K l' a' w' ∧ 2 * sliceLen (a'.tmps.getD 1 undef) + (if l' = 3 then 0 else 1) < 2 * sliceLen (a.tmps.getD 1 undef) + (if l = 3 then 0 else 1))
      (bodyPost Try.prog Try.f18 (Fed w0 g m R))) a w := by
  obtain ⟨st, H, ll, cl, p, L, ha, ⟨rfl, rfl, rfl, rfl, hR, hl⟩ | ⟨rfl, rfl, rfl, rfl, hR, hl⟩ | ⟨rfl, h1, h2, h3, h4, hR, hl⟩ | ⟨rfl, rfl, h1, h2, hR, hl⟩⟩ := h
  · refine Leaves.mono (N := 2 * p.length) (Lc := L.length + 1) (fun st' p' L' a' w' hat hR' hp' hL' => ⟨⟨st', [], 0, 0, p', L', hat, .inl ⟨rfl, rfl, rfl, rfl, hR', by omega⟩⟩, ?_⟩) (seg3 w0 g m M R _ _ st p L a w hg ha (by omega) hMm hM16 hR (Nat.le_refl _) (Nat.le_refl _))
    rw [mu_of hat, mu_of ha]
    simp
    omega
  · refine Leaves.mono (N := 2 * p.length + 1) (Lc := L.length + 1) (fun st' p' L' a' w' hat hR' hp' hL' => ⟨⟨st', [], 0, 0, p', L', hat, .inl ⟨rfl, rfl, rfl, rfl, hR', by omega⟩⟩, ?_⟩) (seg0 w0 g m M R _ _ st p L a w hg ha (by omega) hMm hM16 hR (by omega) (Nat.le_refl _))
    rw [mu_of hat, mu_of ha]
    simp
    omega
  · refine Leaves.mono (N := 2 * p.length + 1) (Lc := L.length + 1) (fun st' p' L' a' w' hat hR' hp' hL' => ⟨⟨st', [], 0, 0, p', L', hat, .inl ⟨rfl, rfl, rfl, rfl, hR', by omega⟩⟩, ?_⟩) (seg1 w0 g m M R _ _ st H ll cl p L a w hg ha (by omega) h1 h2 h3 h4 hMm hM16 hR (by omega) (Nat.le_refl _))
    rw [mu_of hat, mu_of ha]
    simp
    omega
  · refine Leaves.mono (N := 2 * p.length + 1) (Lc := L.length + 1) (fun st' p' L' a' w' hat hR' hp' hL' => ⟨⟨st', [], 0, 0, p', L', hat, .inl ⟨rfl, rfl, rfl, rfl, hR', by omega⟩⟩, ?_⟩) (seg2 w0 g m M R _ _ st H cl p L a w hg ha (by omega) h1 h2 hR (by omega) (Nat.le_refl _))
    rw [mu_of hat, mu_of ha]
    simp
    omega

set_option maxRecDepth 100000 in
theorem feed_nil (w : World) (A : Option Addr) (n c : Nat) :
    Calls Try.prog 18 #[.pointer none, .slice A n c] w fun e w' => e = .returned (.tuple #[.slice none 0 0, .int .i64 1]) ∧ w' = w := by
  go_enter Try.func18, Try.ntmps18
  go_wp2
  go_step3
  go_wp2
  try rw [Exit.noGoto_ret]
  go_ret2
  exact ⟨rfl, rfl⟩

set_option maxRecDepth 100000 in
set_option maxHeartbeats 3200000 in
theorem feed_over (w : World) (g : Nat) (m ll cl cnt : Int) (H : List UInt8) (hc : Cut w g m 4 H cnt ll cl) (A : Option Addr) (n c : Nat) :
    Calls Try.prog 18 #[.pointer (some ⟨g, 0, none⟩), .slice A n c] w fun e w' => e = .returned (.tuple #[.slice none 0 0, .int .i64 6]) ∧ w' = w := by
  have c1 := hc.state
  go_enter Try.func18, Try.ntmps18
  go_wp2
  go_step3
  go_wp2
  try rw [Exit.noGoto_ret]
  go_ret2
  exact ⟨rfl, rfl⟩

set_option maxRecDepth 100000 in
set_option maxHeartbeats 3200000 in
theorem feed_of (w0 : World) (g : Nat) (m : Int) (M : Nat) (st : Nat) (H : List UInt8) (ll cl : Nat) (R : Out) (p : List UInt8) (hst : st ≠ 4) (hs : Ok M ⟨st, H, ll, cl⟩) (hMm : (if m = 0 then 16384 else m) = (M : Int)) (hM16 : M ≤ 16384)
    (hc : Cut w0 g m (st : Int) H (H.length : Int) (ll : Int) (cl : Int)) (A : Option Addr) (n c : Nat) (hoff : Off w0 g A n (bys p)) (hnc : n ≤ c) (hcm : c ≤ maxLen) (hsz : p.length ≤ 999999999999) (hR : R = run M ⟨st, H, ll, cl⟩ p) :
    Calls Try.prog 18 #[.pointer (some ⟨g, 0, none⟩), .slice A n c] w0 (Fed w0 g m R) := by
  have hg := hc.lt
  have c1 := hc.state
  have HM := hide (Msgs.nothing w0 w0.heap.size)
  have HN := hide (Near.refl g w0)
  have HC := hide hc
  have HRR := hide hR
  have HMM := hide hMm
  obtain ⟨K, hK⟩ : ∃ K, K = p.length + 1 := ⟨_, rfl⟩
  clear hc hR hMm
  have hf : ∀ l a w, J w0 g m M R K l a w → findLabel fc l = some (.seq .skip (fx l)) := by
    rintro l a w ⟨_, _, _, _, _, _, _, ⟨rfl, _⟩ | ⟨rfl, _⟩ | ⟨rfl, _⟩ | ⟨rfl, _⟩⟩
    all_goals simp only [fx, fc, Try.f18, findLabel, Nat.reduceBEq, Bool.false_eq_true, ↓reduceIte]
  have hpass : ∀ l a w, J w0 g m M R K l a w → _ := fun l a w h => J.pass (l := l) (a := a) (w := w) hg HMM.out hM16 (by omega) h
  go_enter Try.func18, Try.ntmps18
  go_wp2
  refine wp_scope_labels (fun l => .seq .skip (fx l)) (J w0 g m M R K) (fun l a _ => 2 * sliceLen (a.tmps.getD 1 undef) + (if l = 3 then 0 else 1)) (fun l a w h => ?hf) ?first (fun l a w h => wp_skip_seq (hpass l a w h))
  case hf =>
    have := hf l a w h
    simp only [fc, Try.f18] at this
    exact this
  case first =>
    clear hf hpass
    rcases hs with h | h | ⟨h1, h2, h3, h4, h5, h6⟩ | ⟨h1, h2, h3, h4, h5⟩ | h
    · injection h with e1 e2 e3 e4
      subst e1 e2 e3 e4
      have c1' : w0.cell? ⟨g, 1, none⟩ = some (.int .u8 0) := c1
      clear c1 hst
      go_wp2
      all_goals (try go_step3)
      simp only [Exit.then]
      rename_i K' hK'
      refine hK' _ _ ?_
      refine wp_code (c' := fx 3) ?_ (Leaves.mono (N := 2 * p.length) (Lc := 1) (fun st' p' L' a' w' hat hR' hp' hL' => ⟨st', [], 0, 0, p', L', hat, .inl ⟨rfl, rfl, rfl, rfl, hR', by omega⟩⟩)
        (seg3 w0 g m M R _ _ ((0 : Nat) : Int) p [] _ w0 hg ?_ (by simp) HMM.out hM16 ?_ (Nat.le_refl _) (by simp)))
      · simp only [fx, fc, Try.f18, findLabel, Nat.reduceBEq, ↓reduceIte]
      · exact At.of A n c rfl rfl rfl rfl hoff hnc hcm HM.out HC.out HN.out
      · rw [HRR.out, pre_nil]
        rfl
    · injection h with e1 e2 e3 e4
      subst e1 e2 e3 e4
      have c1' : w0.cell? ⟨g, 1, none⟩ = some (.int .u8 1) := c1
      clear c1 hst
      go_wp2
      all_goals (try go_step3)
      try simp only [Exit.then, Exit.jumps]
      refine ⟨1, [48], 0, 0, p, [], At.of A n c rfl rfl rfl rfl hoff hnc hcm HM.out HC.out HN.out, .inr (.inl ⟨rfl, rfl, rfl, rfl, ?_, by simp; omega⟩)⟩
      rw [HRR.out, pre_nil]
    · simp only at h1 h2 h3 h4 h5 h6
      subst h1
      have c1' : w0.cell? ⟨g, 1, none⟩ = some (.int .u8 2) := c1
      clear c1 hst
      go_wp2
      all_goals (try go_step3)
      try simp only [Exit.then, Exit.jumps]
      refine ⟨2, H, ll, cl, p, [], At.of A n c rfl rfl rfl rfl hoff hnc hcm HM.out HC.out HN.out, .inr (.inr (.inl ⟨rfl, h5, h6, h2, h3, ?_, by simp; omega⟩))⟩
      rw [HRR.out, pre_nil, lrun, if_neg (by omega)]
    · simp only at h1 h2 h3 h4 h5
      subst h1 h2
      have c1' : w0.cell? ⟨g, 1, none⟩ = some (.int .u8 3) := c1
      clear c1 hst
      go_wp2
      all_goals (try go_step3)
      try simp only [Exit.then, Exit.jumps]
      refine ⟨3, H, 0, cl, p, [], At.of A n c rfl rfl rfl rfl hoff hnc hcm HM.out HC.out HN.out, .inr (.inr (.inr ⟨rfl, rfl, by omega, by omega, ?_, by simp; omega⟩))⟩
      rw [HRR.out, pre_nil, crun, if_neg (by omega)]
    · injection h with e1
      exact absurd e1 hst

/-- A cutter in block g that remembers s. -/
def Cutter (w : World) (g : Nat) (m : Int) (s : CS) : Prop := ∃ m', (s.st ≠ 4 → m' = m) ∧ Cut w g m' (s.st : Int) s.buf (s.buf.length : Int) (s.ll : Int) (s.cl : Int)

theorem Cutter.below {w w' : World} {g : Nat} {m : Int} {s : CS} (h : Cutter w g m s) {B : Nat} (hb : Below B w w') (hB : g < B) : Cutter w' g m s := by
  obtain ⟨m', h1, h2⟩ := h
  exact ⟨m', h1, h2.below hb hB⟩

theorem Cutter.lt {w : World} {g : Nat} {m : Int} {s : CS} (h : Cutter w g m s) : g < w.heap.size := by
  obtain ⟨m', h1, h2⟩ := h
  exact h2.lt

/-- What 'Feed' answers to any piece. -/
def FeedSays (w : World) (g : Nat) (m : Int) (A : Option Addr) (n c : Nat) (R : Out) : Prop :=
  Calls Try.prog 18 #[.pointer (some ⟨g, 0, none⟩), .slice A n c] w fun e w' => ∃ v, e = .returned (.tuple #[v, .int .i64 R.2.1]) ∧
    Msgs w' w.heap.size v R.1 ∧ Cutter w' g m R.2.2 ∧ Near g w w'

theorem feed_any (w : World) (g : Nat) (m : Int) (M : Nat) (s : CS) (p : List UInt8) (hs : Ok M s) (hMm : (if m = 0 then 16384 else m) = (M : Int)) (hM16 : M ≤ 16384) (hc : Cutter w g m s) (A : Option Addr) (n c : Nat)
    (hoff : Off w g A n (bys p)) (hnc : n ≤ c) (hcm : c ≤ maxLen) (hsz : s.st ≠ 4 → p.length ≤ 999999999999) : FeedSays w g m A n c (feedOf M s p) := by
  obtain ⟨m', h1, h2⟩ := hc
  unfold FeedSays feedOf
  by_cases h4 : s.st = 4
  · rw [if_pos h4]
    rw [h4] at h2
    refine (feed_over w g m' _ _ _ _ h2 A n c).mono ?_
    rintro e w' ⟨rfl, rfl⟩
    refine ⟨_, rfl, Msgs.nothing _ _, ⟨m', fun h => absurd h4 h, ?_⟩, Near.refl _ _⟩
    rw [h4]
    exact h2
  · rw [if_neg h4]
    obtain rfl := h1 h4
    refine (feed_of w g m' M s.st s.buf s.ll s.cl (run M s p) p h4 hs hMm hM16 h2 A n c hoff hnc hcm (hsz h4) rfl).mono ?_
    rintro e w' ⟨v, m'', rfl, q1, q2, q3, q4⟩
    exact ⟨v, rfl, q1, ⟨m'', q2, q3⟩, q4⟩


end Go.Proofs.Ytgdaangbgmmgmaa.Frame
