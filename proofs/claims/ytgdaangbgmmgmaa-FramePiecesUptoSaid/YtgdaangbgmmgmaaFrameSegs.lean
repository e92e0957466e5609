/-
  'Feed', the labels ahead: the bytes of a long length, a length's first byte, a tag; and the whole.
-/
import Derived.Test.YtgdaangbgmmgmaaFrameFeed
namespace Go.Proofs.Ytgdaangbgmmgmaa.Frame
open Go.RowKit

theorem wp_code {P : Program} {c c' : Code} {Q : Exit → Act → World → Prop} {a : Act} {w : World} (e : c' = c) (h : c'.wp P Q a w) : c.wp P Q a w := e ▸ h

set_option maxRecDepth 100000 in
set_option maxHeartbeats 1600000 in
theorem seg1 (w0 : World) (g : Nat) (m : Int) (M : Nat) (R : Out) (N Lc : Nat) (st : Int) (H : List UInt8) (ll cl : Nat) (p : List UInt8) (L : List (List UInt8)) (a : Act) (w : World) (hg : g < w0.heap.size)
    (h : At w0 g m st H ll cl p L a w) (hL : L.length ≤ 1000000000000) (hll : ll ≤ 4) (hcl : cl < 256 ^ (4 - ll)) (hH2 : 2 ≤ H.length) (hH6 : H.length + ll ≤ 6) (hMm : (if m = 0 then 16384 else m) = (M : Int)) (hM16 : M ≤ 16384)
    (hR : R = pre L (lrun M H ll cl p)) (hN : 2 * p.length < N) (hLc : L.length + 1 ≤ Lc) :
    (fx 1).wp Try.prog (Leaves w0 g m M R N Lc) a w := by
  obtain ⟨⟨u, rfl, hu0, ⟨A, n, c, hu1, hoff, hnc, hcm⟩, hM⟩, hcut, hnear⟩ := h
  rw [hu0, hu1]
  have hp2 := hoff.1
  rw [bys_length] at hp2
  have c1 := hcut.state
  have f1 := hcut.frozen 1
  have hc3 := hcut.setState 2
  have hn3 := Near.setCell g 1 w (.int .u8 2)
  have hr := length_any _ g m 2 ll cl H hc3 A n c p ((hoff.near hnear).near hn3) hnc hcm hll hcl (by omega) (by omega)
  have hn3' := hnear.trans hn3
  have hM3 := hM.near hn3 hg
  obtain ⟨k, hk⟩ : ∃ k, k = min ll n := ⟨_, rfl⟩
  rw [← hk] at hr
  obtain ⟨D, hD⟩ : ∃ D, D = ll - k := ⟨_, rfl⟩
  obtain ⟨N', hNN⟩ : ∃ N', N' = n - k := ⟨_, rfl⟩
  obtain ⟨C', hCC⟩ : ∃ C', C' = c - k := ⟨_, rfl⟩
  obtain ⟨S, hS⟩ : ∃ S, S = H.length + k := ⟨_, rfl⟩
  obtain ⟨V, hV⟩ : ∃ V, V = bev cl (p.take k) := ⟨_, rfl⟩
  unfold Reads at hr
  rw [← hD, ← hNN, ← hCC, ← hS, ← hV] at hr
  have hNC : N' ≤ C' := by omega
  have hCm : C' ≤ maxLen := by omega
  have hS2 : S ≤ 6 := by omega
  have hVl : V < 256 ^ 4 := by
    rw [hV]
    refine Nat.lt_of_lt_of_le (bev_lt (p.take k) cl (4 - ll) hcl) (Nat.pow_le_pow_right (by omega) ?_)
    rw [List.length_take]
    omega
  have hV32 : V ≤ 4294967296 := Nat.le_of_lt hVl
  obtain ⟨B, hB⟩ : ∃ B, B = H ++ p.take k := ⟨_, rfl⟩
  have hBl : B.length = S := by rw [hB, List.length_append, List.length_take]; omega
  rw [← hB] at hr
  have HR := hide hr
  have HM := hide hM3
  have HN := hide hn3'
  have HRR := hide hR
  have HBL := hide hBl
  clear hr hc3 hn3 hn3' hM3 hM hcut hnear hu0 hu1 hR hVl
  simp only [fx, fc, Try.f18, findLabel, Nat.reduceBEq, Bool.false_eq_true, ↓reduceIte]
  rcases Nat.lt_or_ge n ll with hless | hless
  · obtain ⟨h1, hRk⟩ : 0 < D ∧ R = pre L ([], 0, ⟨2, B, D, V⟩) := by
      refine ⟨by omega, ?_⟩
      have hkp : k = p.length := by omega
      rw [HRR.out, lrun_less M p H ll cl (by omega), hB, hD, hV, hkp, List.take_length]
    have hSi : (S : Int) = (B.length : Int) := by omega
    have HSI := hide hSi
    have HRK := hide hRk
    clear hk hD hB hS hRk hSi hBl hV
    have h2 : 0 < (D : Int) := by omega
    go_wp2_with fail
    refine HR.out.mono ?_
    rintro e w2 ⟨A', rfl, o1, o2, o3⟩
    have c2 := o2.left
    have HC := hide o2
    have HN2 := hide (HN.out.trans o3)
    have HM2 := hide (HM.out.near o3 hg)
    clear o1 o2 o3 HR HN HM c1 f1
    go_wp2
    unfold Leaves
    simp only [Exit.jumps]
    go_ret2
    refine ⟨u 6, m, ?_, ?_, fun _ => rfl, ?_, HN2.out⟩
    · rw [HRK.out]; rfl
    · rw [HRK.out]; simpa [pre] using HM2.out
    · rw [HRK.out]
      have := HC.out
      rw [HSI.out] at this
      exact this
  · obtain ⟨h1, hRk⟩ : D = 0 ∧ lrun M H ll cl p = cont M (whole M B V) (p.drop k) := by
      refine ⟨by omega, ?_⟩
      have hkp : k = ll := by omega
      rw [lrun_done M ll p H cl (by omega), hB, hV, hkp]
    subst h1
    have hSi : (S : Int) = (B.length : Int) := by omega
    have HSI := hide hSi
    have HNN := hide hNN
    clear hk hD hB hS hBl hSi hV hNN hCC
    by_cases hlong : M < S + V
    · have hRl : R = pre L ([], 4, ended) := by rw [HRR.out, hRk, whole_long _ _ _ _ (by rw [HBL.out]; exact hlong)]
      have HRL := hide hRl
      have hb : ((if m = 0 then 16384 else m) < (S : Int) + (V : Int)) := by rw [hMm]; omega
      have hdec : decide ((if m = 0 then 16384 else m) < (S : Int) + (V : Int)) = true := decide_eq_true hb
      have HDEC := hide hdec
      clear hRl hRk hb hdec hMm
      go_wp2_with fail
      refine HR.out.mono ?_
      rintro e w2 ⟨A', rfl, o1, o2, o3⟩
      have c2 : w2.cell? ⟨g, 16387, none⟩ = some (.int .i64 0) := o2.left
      have HLO := hide (long_any w2 g m 2 _ _ _ B o2 (by omega) (by omega) (by omega) (by omega))
      have HN2 := hide (HN.out.trans o3)
      have HM2 := hide (HM.out.near o3 hg)
      clear o1 o2 o3 HR HN HM c1 f1
      go_wp2_with fail
      refine HLO.out.mono ?_
      rintro e w3 ⟨rfl, q2, q3⟩
      rw [HDEC.out]
      have HEN := hide (end_any w3 g _ _ _ _ _ _ q2)
      have HN3 := hide (HN2.out.trans q3)
      have HM3 := hide (HM2.out.near q3 hg)
      clear q2 q3 HLO HN2 HM2
      go_wp2_with fail
      refine HEN.out.mono ?_
      rintro e w4 ⟨rfl, q2, q3⟩
      have HC4 := hide q2
      have HN4 := hide (HN3.out.trans q3)
      have HM4 := hide (HM3.out.near q3 hg)
      clear q2 q3 HEN HN3 HM3
      go_wp2
      unfold Leaves
      simp only [Exit.jumps]
      go_ret2
      refine ⟨u 6, 0, ?_, ?_, fun h => absurd ?_ h, ?_, HN4.out⟩
      · rw [HRL.out]; rfl
      · rw [HRL.out]; simpa [pre] using HM4.out
      · rw [HRL.out]; rfl
      · rw [HRL.out]; exact HC4.out
    · have hRl : R = pre L (crun M B V (p.drop k)) := by rw [HRR.out, hRk, whole_fits _ _ _ _ (by rw [HBL.out]; exact hlong)]
      have HRL := hide hRl
      have hb : ¬ ((if m = 0 then 16384 else m) < (S : Int) + (V : Int)) := by rw [hMm]; omega
      have hdec : decide ((if m = 0 then 16384 else m) < (S : Int) + (V : Int)) = false := decide_eq_false hb
      have HDEC := hide hdec
      clear hRl hRk hb hdec hMm
      go_wp2_with fail
      refine HR.out.mono ?_
      rintro e w2 ⟨A', rfl, o1, o2, o3⟩
      have c2 : w2.cell? ⟨g, 16387, none⟩ = some (.int .i64 0) := o2.left
      have HLO := hide (long_any w2 g m 2 _ _ _ B o2 (by omega) (by omega) (by omega) (by omega))
      have HN2 := hide (HN.out.trans o3)
      have HM2 := hide (HM.out.near o3 hg)
      have HO := hide o1
      clear o1 o2 o3 HR HN HM c1 f1
      go_wp2_with fail
      refine HLO.out.mono ?_
      rintro e w3 ⟨rfl, q2, q3⟩
      rw [HDEC.out]
      have HC3 := hide q2
      have HN3 := hide (HN2.out.trans q3)
      have HM3 := hide (HM2.out.near q3 hg)
      clear q2 q3 HLO HN2 HM2
      go_wp2_with fail
      all_goals (try go_step3)
      simp only [Exit.then]
      rename_i K hK
      refine hK _ _ ?_
      refine wp_code (c' := fx 2) ?_ (seg2 w0 g m M R N Lc 2 B V (p.drop k) L _ w3 hg ?_ hL ?_ ?_ HRL.out ?_ hLc)
      · simp only [fx, fc, Try.f18, findLabel, Nat.reduceBEq, Bool.false_eq_true, ↓reduceIte]
      · refine At.of A' N' C' rfl rfl rfl rfl (HO.out w0 hoff) hNC hCm HM3.out ?_ HN3.out
        have := HC3.out
        rw [HSI.out] at this
        exact this
      · have := HBL.out; omega
      · have := HBL.out; omega
      · rw [List.length_drop]; omega

theorem Off.head {w : World} {g n : Nat} {A : Option Addr} {b : UInt8} {r : List UInt8} (h : Off w g A n (bys (b :: r))) : ∃ gp o, A = some ⟨gp, o, none⟩ ∧ w.cell? ⟨gp, o, none⟩ = some (.int .u8 (b.toNat : Int)) := by
  rcases h.2 with h0 | ⟨ad, e, _, hc⟩
  · simp [bys] at h0
  · have h1 := hc 0 (c8 b) rfl
    obtain ⟨gp, o, sp⟩ := ad
    have hsp : sp = none := by simpa [Addr.add] using World.cell?_spot h1
    subst hsp
    exact ⟨gp, o, e, by simpa [Addr.add, c8] using h1⟩

set_option maxRecDepth 100000 in
set_option maxHeartbeats 3200000 in
theorem seg0 (w0 : World) (g : Nat) (m : Int) (M : Nat) (R : Out) (N Lc : Nat) (st : Int) (p : List UInt8) (L : List (List UInt8)) (a : Act) (w : World) (hg : g < w0.heap.size)
    (h : At w0 g m st [48] 0 0 p L a w) (hL : L.length ≤ 1000000000000) (hMm : (if m = 0 then 16384 else m) = (M : Int)) (hM16 : M ≤ 16384)
    (hR : R = pre L (run M ⟨1, [48], 0, 0⟩ p)) (hN : 2 * p.length < N) (hLc : L.length + 1 ≤ Lc) :
    (fx 0).wp Try.prog (Leaves w0 g m M R N Lc) a w := by
  obtain ⟨⟨u, rfl, hu0, ⟨A, n, c, hu1, hoff, hnc, hcm⟩, hM⟩, hcut, hnear⟩ := h
  rw [hu0, hu1]
  have hp2 := hoff.1
  rw [bys_length] at hp2
  have c1 := hcut.state
  have f1 := hcut.frozen 1
  have hc3 := hcut.setState 1
  have hn3 := Near.setCell g 1 w (.int .u8 1)
  have hn3' := hnear.trans hn3
  have hM3 := hM.near hn3 hg
  rcases p with _ | ⟨b, r⟩
  · obtain rfl : n = 0 := by simpa using hp2.symm
    have HC := hide hc3
    have HM := hide hM3
    have HN := hide hn3'
    have HRR := hide hR
    clear hc3 hn3 hn3' hM3 hM hcut hnear hu0 hu1 hR
    simp only [fx, fc, Try.f18, findLabel, Nat.reduceBEq, Bool.false_eq_true, ↓reduceIte]
    go_wp2
    unfold Leaves
    simp only [Exit.jumps]
    go_ret2
    refine ⟨u 6, m, ?_, ?_, fun _ => rfl, ?_, HN.out⟩
    · rw [HRR.out]; rfl
    · rw [HRR.out]; simpa [pre, run] using HM.out
    · rw [HRR.out]; exact HC.out
  · obtain ⟨gp, o, rfl, hcell⟩ := (hoff.near hn3').head
    have hb := b.toNat_lt
    obtain ⟨x, hx⟩ : ∃ x, x = b.toNat := ⟨_, rfl⟩
    rw [← hx] at hcell hb
    simp only [List.length_cons] at hp2 hN
    have hn0 : 0 < n := by omega
    have hc0 : 0 < c := by omega
    obtain ⟨N', hNN⟩ : ∃ N', N' = n - 1 := ⟨_, rfl⟩
    obtain ⟨C', hCC⟩ : ∃ C', C' = c - 1 := ⟨_, rfl⟩
    have hnz : ¬ n = 0 := by omega
    have hni : ¬ (n : Int) = 0 := by omega
    have HC := hide hc3
    have HM := hide hM3
    have HN := hide hn3'
    have HRR := hide hR
    have HXX := hide hx
    have HNN := hide hNN
    have HCC := hide hCC
    clear hM hcut hnear hu0 hu1 hR hx hNN hCC hn3' hM3
    by_cases hs : x ≤ 127
    · have hb1 := begin_short _ g m 1 _ _ _ [48] hc3 x hs
      have HB := hide hb1
      clear hc3 hb1 hn3
      simp only [fx, fc, Try.f18, findLabel, Nat.reduceBEq, Bool.false_eq_true, ↓reduceIte]
      go_wp2_with fail
      refine HB.out.mono ?_
      rintro e w2 ⟨rfl, q2, q3⟩
      have hh := hold_any w2 g m 1 _ _ [48] q2 (some ⟨gp, o, none⟩) n c (b :: r) 1 ((hoff.near HN.out).near q3) (by omega) hnc hcm (by simp) (by simp)
      unfold Held at hh
      rw [← HNN.out, ← HCC.out] at hh
      have HH := hide hh
      have HN2 := hide (HN.out.trans q3)
      have HM2 := hide (HM.out.near q3 hg)
      clear q2 q3 hh HB HC HN HM
      go_wp2_with fail
      refine HH.out.mono ?_
      rintro e w3 ⟨A', rfl, o1, o2, o3⟩
      have HC3 := hide o2
      have HO := hide (o1 w0 hoff)
      have HN3 := hide (HN2.out.trans o3)
      have HM3 := hide (HM2.out.near o3 hg)
      clear o1 o2 o3 HH HN2 HM2
      go_wp2_with fail
      all_goals (try go_step3)
      simp only [Exit.then]
      rename_i K hK
      refine hK _ _ ?_
      refine wp_code (c' := fx 1) ?_ (seg1 w0 g m M R N Lc 1 [48, b] 0 x r L _ w3 hg ?_ hL (by omega) ?_ (by simp) (by simp) hMm hM16 ?_ ?_ hLc)
      · simp only [fx, fc, Try.f18, findLabel, Nat.reduceBEq, Bool.false_eq_true, ↓reduceIte]
      · have := HNN.out
        have := HCC.out
        exact At.of A' N' C' rfl rfl rfl rfl HO.out (by omega) (by omega) HM3.out HC3.out HN3.out
      · show x < 4294967296
        omega
      · rw [HRR.out, HXX.out, length_short _ _ _ (by rw [← HXX.out]; exact hs)]
      · omega
    · by_cases hl : 129 ≤ x ∧ x ≤ 132
      · have hb1 := begin_long _ g m 1 _ _ _ [48] hc3 x (by omega) (by omega)
        rw [decide_eq_true hl] at hb1
        have hxi : (x : Int) - 128 = ((x - 128 : Nat) : Int) := by omega
        rw [hxi] at hb1
        obtain ⟨y, hy⟩ : ∃ y, y = x - 128 := ⟨_, rfl⟩
        rw [← hy] at hb1
        have HB := hide hb1
        have HY := hide hy
        clear hc3 hb1 hn3 hxi hy
        simp only [fx, fc, Try.f18, findLabel, Nat.reduceBEq, Bool.false_eq_true, ↓reduceIte]
        go_wp2_with fail
        refine HB.out.mono ?_
        rintro e w2 ⟨rfl, q2, q3⟩
        have hh := hold_any w2 g m 1 _ _ [48] q2 (some ⟨gp, o, none⟩) n c (b :: r) 1 ((hoff.near HN.out).near q3) (by omega) hnc hcm (by simp) (by simp)
        unfold Held at hh
        rw [← HNN.out, ← HCC.out] at hh
        have HH := hide hh
        have HN2 := hide (HN.out.trans q3)
        have HM2 := hide (HM.out.near q3 hg)
        clear q2 q3 hh HB HC HN HM
        go_wp2_with fail
        refine HH.out.mono ?_
        rintro e w3 ⟨A', rfl, o1, o2, o3⟩
        have HC3 := hide o2
        have HO := hide (o1 w0 hoff)
        have HN3 := hide (HN2.out.trans o3)
        have HM3 := hide (HM2.out.near o3 hg)
        clear o1 o2 o3 HH HN2 HM2
        go_wp2_with fail
        all_goals (try go_step3)
        simp only [Exit.then]
        rename_i K hK
        refine hK _ _ ?_
        refine wp_code (c' := fx 1) ?_ (seg1 w0 g m M R N Lc 1 [48, b] y 0 r L _ w3 hg ?_ hL ?_ ?_ (by simp) ?_ hMm hM16 ?_ ?_ hLc)
        · simp only [fx, fc, Try.f18, findLabel, Nat.reduceBEq, Bool.false_eq_true, ↓reduceIte]
        · have := HNN.out
          have := HCC.out
          exact At.of A' N' C' rfl rfl rfl rfl HO.out (by omega) (by omega) HM3.out HC3.out HN3.out
        · have := HY.out
          omega
        · exact Nat.pos_of_ne_zero (by simp)
        · have := HY.out
          simp
          omega
        · rw [HRR.out, HY.out, HXX.out, length_long _ _ _ (by rw [← HXX.out]; exact hl.1) (by rw [← HXX.out]; exact hl.2)]
        · omega
      · have hb1 := begin_long _ g m 1 _ _ _ [48] hc3 x (by omega) (by omega)
        rw [decide_eq_false hl] at hb1
        have HB := hide hb1
        have hRl : R = pre L ([], 2, ended) := by rw [HRR.out, length_bad _ _ _ (by rw [← HXX.out]; omega) (by rw [← HXX.out]; exact hl)]
        have HRL := hide hRl
        clear hc3 hb1 hn3 hRl
        simp only [fx, fc, Try.f18, findLabel, Nat.reduceBEq, Bool.false_eq_true, ↓reduceIte]
        go_wp2_with fail
        refine HB.out.mono ?_
        rintro e w3 ⟨rfl, q2, q3⟩
        have HEN := hide (end_any w3 g _ _ _ _ _ _ q2)
        have HN3 := hide (HN.out.trans q3)
        have HM3 := hide (HM.out.near q3 hg)
        clear q2 q3 HB HC HN HM
        go_wp2_with fail
        refine HEN.out.mono ?_
        rintro e w4 ⟨rfl, q2, q3⟩
        have HC4 := hide q2
        have HN4 := hide (HN3.out.trans q3)
        have HM4 := hide (HM3.out.near q3 hg)
        clear q2 q3 HEN HN3 HM3
        go_wp2
        unfold Leaves
        simp only [Exit.jumps]
        go_ret2
        refine ⟨u 6, 0, ?_, ?_, fun h => absurd ?_ h, ?_, HN4.out⟩
        · rw [HRL.out]; rfl
        · rw [HRL.out]; simpa [pre] using HM4.out
        · rw [HRL.out]; rfl
        · rw [HRL.out]; exact HC4.out


end Go.Proofs.Ytgdaangbgmmgmaa.Frame
