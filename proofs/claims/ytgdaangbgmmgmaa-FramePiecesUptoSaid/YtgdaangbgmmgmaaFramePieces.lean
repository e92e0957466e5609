/-
  'FramePieces': however a stream is cut into pieces, the messages and the end are the same.
-/
import Derived.Test.YtgdaangbgmmgmaaFrameFeeds
namespace Go.Proofs.Ytgdaangbgmmgmaa.Frame
open Go.RowKit Go.Proofs.Ytgdaangbgmmgmaa.Ber

theorem byte_count (M : Nat) (s : CS) (b : UInt8) : (byte M s b).2.1.length ≤ 1 := by
  unfold byte whole
  repeat' split
  all_goals simp

theorem run_count (M : Nat) : ∀ (p : List UInt8) (s : CS), (run M s p).1.length ≤ p.length
  | [], s => by simp [run]
  | b :: r, s => by
    have h1 := byte_count M s b
    have h2 := run_count M r (byte M s b).1
    rw [run]
    split
    · simp only [pre, List.length_append, List.length_cons]
      omega
    · simp only [List.length_cons]
      omega

theorem mem_flatten_le {p : List UInt8} : ∀ {ps : List (List UInt8)}, p ∈ ps → p.length ≤ ps.flatten.length
  | q :: ps, h => by
    rw [List.flatten_cons, List.length_append]
    rcases List.mem_cons.1 h with rfl | h
    · omega
    · have := mem_flatten_le h
      omega

theorem Msgs.reads {w : World} {base : Nat} {v : Value} {L : List (List UInt8)} (h : Msgs w base v L) : ∃ A c xs, v = .slice A L.length c ∧ L.length ≤ c ∧ c ≤ maxLen ∧ Has w w.heap.size 1 A L.length xs ∧ Els w w.heap.size xs L := by
  obtain ⟨xs, hx, he⟩ := h
  obtain ⟨A, c, rfl, h1, h2, h3⟩ := own_form' hx
  refine ⟨A, c, xs, rfl, h1, h2, h3, fun i l hl => ?_⟩
  obtain ⟨u, hu, huo⟩ := he i l hl
  obtain ⟨A', c', rfl, _, _, hH⟩ := own_form' huo
  exact ⟨A', c', hu, hH⟩

theorem run_state (M : Nat) (l : List UInt8) : (((run M fresh l).2.2.st : Int) == 4) = ((run M fresh l).2.1 != 0) := by
  by_cases h : (run M fresh l).2.1 = 0
  · have h4 := (run_keeps M l fresh (.inl rfl) (by simp [fresh]) h).2
    rw [h]
    simp
    omega
  · rw [run_err M l fresh (.inl rfl) h]
    simp [ended, h]

set_option maxRecDepth 100000 in
theorem most_any (m : Int) (w : World) : Calls Try.prog 13 #[.int .i64 m] w fun e w' => e = .returned (.int .i64 (mostOf m)) ∧ w' = w := by
  rcases Int.lt_or_le m 2 with h | h
  · have HE := hide (show mostOf m = 2 by unfold mostOf; omega)
    go_enter Try.func13, Try.ntmps13
    go_wp2
    go_ret
    exact ⟨by rw [HE.out]; rfl, rfl⟩
  · rcases Int.lt_or_le 16384 m with h2 | h2
    · have HE := hide (show mostOf m = 16384 by unfold mostOf; omega)
      go_enter Try.func13, Try.ntmps13
      go_wp2
      go_ret
      exact ⟨by rw [HE.out]; rfl, rfl⟩
    · have HE := hide (show mostOf m = m by unfold mostOf; omega)
      go_enter Try.func13, Try.ntmps13
      go_wp2
      go_ret
      exact ⟨by rw [HE.out]; rfl, rfl⟩

set_option maxRecDepth 100000 in
theorem pieces_great (w : World) (A : Option Addr) (n c : Nat) (A2 : Option Addr) (m2 c2 : Nat) (most : Int) (z : Bool) (h : 300 < m2) :
    Calls Try.prog 3 #[.slice A n c, .slice A2 m2 c2, .int .i64 most, .bool z] w fun e w' => e = .returned (.bool true) ∧ Below w.heap.size w w' := by
  have h1 : (300 : Int) < (m2 : Int) := by omega
  go_enter Try.func3, Try.ntmps3
  go_wp2_with fail
  refine (awake_any _).mono ?_
  rintro e w1 ⟨rfl, hb1⟩
  go_wp2_with fail
  refine (awake_any _).mono ?_
  rintro e w2 ⟨rfl, hb2⟩
  go_wp2
  go_ret
  exact ⟨rfl, hb1.trans (hb2.mono hb1.size)⟩

set_option maxRecDepth 100000 in
set_option maxHeartbeats 6400000 in
theorem pieces_new (w : World) (A : Option Addr) (n c : Nat) (l : List UInt8) (A2 : Option Addr) (m2 c2 : Nat) (ats : List UInt8) (most : Int) (R : Out) (M : Nat) (HH : Hid (Has w w.heap.size 1 A n (bys l))) (hc : n ≤ c) (hm : c ≤ maxLen) (HLN : Hid (l.length = n)) (hn : n ≤ 1048576)
    (HA : Hid (Has w w.heap.size 1 A2 m2 (bys ats))) (hc2 : m2 ≤ c2) (hm2 : c2 ≤ maxLen) (hml : m2 ≤ 300) (hM2 : 2 ≤ M) (hM16 : M ≤ 16384) (HR : Hid (R = run M fresh l)) (hRst : ((R.2.2.st : Int) == 4) = (R.2.1 != 0)) (hMo : mostOf most = (M : Int)) :
    Calls Try.prog 3 #[.slice A n c, .slice A2 m2 c2, .int .i64 most, .bool false] w fun e w' => e = .returned (.bool true) ∧ Below w.heap.size w w' := by
  have h300 : ¬ (300 : Int) < (m2 : Int) := by omega
  go_enter Try.func3, Try.ntmps3
  go_wp2_with fail
  refine (awake_any _).mono ?_
  rintro e w1 ⟨rfl, hb1⟩
  go_wp2_with fail
  refine (new_any most _).mono ?_
  rintro e wn ⟨rfl, hcn, hbn⟩
  have hs1 := hb1.size
  rw [hMo] at hcn
  have HMO' := hide hMo
  obtain ⟨g, hg⟩ : ∃ g, g = w1.heap.size := ⟨_, rfl⟩
  obtain ⟨m, hmm⟩ : ∃ m : Int, m = (M : Int) := ⟨_, rfl⟩
  rw [← hg, ← hmm] at hcn
  rw [← hg]
  have hgw : w.heap.size ≤ g := by omega
  have HMM := hide (show (if m = 0 then 16384 else m) = (M : Int) by rw [hmm]; exact if_neg (by omega))
  obtain ⟨wc, hwc⟩ : ∃ wc, wc = wn := ⟨_, rfl⟩
  subst hwc
  have hgc := hcn.lt
  have HC := hide (cutter_new hcn)
  have HB := hide (hb1.trans (hbn.mono hs1))
  clear hcn hb1 hbn hg hmm hMo hs1
  have hsc := HB.out.size
  have HCT := hide (cut_of wc A n c l A2 m2 c2 ats w.heap.size (hide (HH.out.below HB.out)) hc hm HLN hn (hide ((HA.out.below HB.out).upto hsc)) hc2 hm2 hml)
  go_wp2_with fail
  refine HCT.out.mono ?_
  rintro e wd ⟨vp, xs, ps, rfl, hop, hpc, hfl, hpl, hbd⟩
  have hHop := hop.form (by omega)
  obtain ⟨gx, cp, rfl, hgx, _⟩ := hHop
  obtain ⟨_, cp', hvp, hnp, hcp, _⟩ := own_form' hop
  injection hvp with hAe _ hcpe
  subst hAe hcpe
  have hall : feedAll M fresh ps = R := by rw [feedAll_run M ps fresh (.inl rfl) (by simp [fresh]), hfl, HR.out]
  have hRl : R.1.length ≤ 1000000000 := by have := run_count M l fresh; rw [← HR.out, HLN.out] at this; omega
  have HFE := hide (feeds_of wd g m M fresh ps R gx (m2 + 1) cp wc.heap.size xs (hide ⟨.inl rfl, by simp [fresh]⟩) HMM hM16 (hide (HC.out.below hbd hgc)) (Nat.lt_of_lt_of_le hgc hbd.size) (hide hop) hgc hnp hcp
    (hide fun i p hp => by obtain ⟨Ai, ci, q1, q2, q3, q4⟩ := hpc i p hp; exact ⟨Ai, ci, q1, q2, q3, Off.of (q4.below (hbd.mono hsc)) hgw⟩) (hide hpl)
    (hide fun p hp => by have h1 := mem_flatten_le hp; rw [hfl, HLN.out] at h1; omega) (hide hall.symm) hRl)
  have HBD := hide (HB.out.trans (hbd.mono hsc))
  clear hop hpc hfl hpl hbd hall HCT HC HB
  go_wp2_with fail
  refine HFE.out.mono ?_
  rintro e wf ⟨v1, rfl, hm1, hc1, hn1⟩
  have hsd := HBD.out.size
  have HBF := hide (HBD.out.trans (hn1.below (B := w.heap.size) hgw hsd))
  have hsf := HBF.out.size
  have HM1 := hide hm1
  have HC1 := hide hc1
  have HMO := hide (most_any most wf)
  clear hm1 hc1 hn1 HFE HBD
  go_wp2_with fail
  refine HMO.out.mono ?_
  rintro e we ⟨rfl, rfl⟩
  rw [HMO'.out]
  have HST := hide (stream_of we A n c M l R (hide ((HH.out.below HBF.out).upto hsf)) hc hm HLN hn hM16 HR)
  clear HMO
  go_wp2_with fail
  refine HST.out.mono ?_
  rintro e wg ⟨v2, rfl, hm2', hbg⟩
  obtain ⟨B1, d1, ys1, rfl, k1, k2, k3, k4⟩ := (HM1.out.below hbg).reads
  obtain ⟨B2, d2, ys2, rfl, j1, j2, j3, j4⟩ := hm2'.reads
  have HSM := hide (same_any wg wg.heap.size B1 B2 R.1.length d1 d2 ys1 ys2 R.1 k3 j3 k1 j1 k2 j2 rfl k4 j4)
  have hgf := HC1.out.lt
  have HC2 := hide (HC1.out.below hbg hgf)
  have HBG := hide (HBF.out.trans (hbg.mono hsf))
  clear hm2' hbg k3 k4 j3 j4 HST HM1 HC1 HBF
  have hRS := hRst
  obtain ⟨RL, re, rs⟩ := R
  simp only at hRS
  have HRS := hide hRS
  go_wp2_with fail
  refine HSM.out.mono ?_
  rintro e wh ⟨rfl, hbh⟩
  have hsg := HBG.out.size
  have HBH := hide (HBG.out.trans (hbh.mono hsg))
  obtain ⟨m', _, hcut⟩ := HC2.out.below hbh HC2.out.lt
  have hcut2 : Cut wh g m' (rs.st : Int) rs.buf (rs.buf.length : Int) (rs.ll : Int) (rs.cl : Int) := hcut
  have HWT := hide (waiting_any wh g _ _ _ _ _ _ hcut2)
  have hov := over_any wh g _ _ _ _ _ _ hcut2
  rw [HRS.out] at hov
  have HOV := hide hov
  clear hcut hcut2 hov hbh HSM HC2 HBG
  go_wp2_with fail
  refine HWT.out.mono ?_
  rintro e wi ⟨rfl, rfl⟩
  go_wp2_with fail
  refine HOV.out.mono ?_
  rintro e wj ⟨rfl, rfl⟩
  go_wp2
  go_ret
  exact ⟨by simp, HBH.out⟩

set_option maxRecDepth 100000 in
set_option maxHeartbeats 6400000 in
theorem pieces_zero (w : World) (A : Option Addr) (n c : Nat) (l : List UInt8) (A2 : Option Addr) (m2 c2 : Nat) (ats : List UInt8) (most : Int) (R : Out) (M : Nat) (HH : Hid (Has w w.heap.size 1 A n (bys l))) (hc : n ≤ c) (hm : c ≤ maxLen) (HLN : Hid (l.length = n)) (hn : n ≤ 1048576)
    (HA : Hid (Has w w.heap.size 1 A2 m2 (bys ats))) (hc2 : m2 ≤ c2) (hm2 : c2 ≤ maxLen) (hml : m2 ≤ 300) (hM2 : 2 ≤ M) (hM16 : M ≤ 16384) (HR : Hid (R = run M fresh l)) (hRst : ((R.2.2.st : Int) == 4) = (R.2.1 != 0)) (hM : M = 16384) :
    Calls Try.prog 3 #[.slice A n c, .slice A2 m2 c2, .int .i64 most, .bool true] w fun e w' => e = .returned (.bool true) ∧ Below w.heap.size w w' := by
  obtain ⟨Z0, hZ, hs, hz⟩ := zero_run
  have HZ := hide hZ
  have HMO' := hide (show mostOf 16384 = (M : Int) by rw [hM]; rfl)
  clear hZ hs
  have h300 : ¬ (300 : Int) < (m2 : Int) := by omega
  go_enter Try.func3, Try.ntmps3
  go_wp2_with fail
  refine (awake_any _).mono ?_
  rintro e w1 ⟨rfl, hb1⟩
  go_wp2_with fail
  refine (new_any most _).mono ?_
  rintro e wn ⟨rfl, hcn, hbn⟩
  have hs1 := hb1.size
  have hbz := (hb1.trans (hbn.mono hs1)).alloc (hb1.trans (hbn.mono hs1)).size (.cells Z0 29)
  have hcz : Cut (wn.alloc (.cells Z0 29)) wn.heap.size 0 0 [] 0 0 0 := by rw [HZ.out]; exact Cut.laid wn 0 0
  have hsn := (hb1.trans (hbn.mono hs1)).size
  obtain ⟨g, hg⟩ : ∃ g, g = wn.heap.size := ⟨_, rfl⟩
  have HMM := hide (show (if (0 : Int) = 0 then 16384 else 0) = (M : Int) by rw [hM]; rfl)
  obtain ⟨m, hmm⟩ : ∃ m : Int, m = 0 := ⟨_, rfl⟩
  rw [← hg] at hcz
  have HMM2 : Hid ((if m = 0 then 16384 else m) = (M : Int)) := hide (by rw [hmm]; exact HMM.out)
  have hcz2 : Cut (wn.alloc (.cells Z0 29)) g m 0 [] 0 0 0 := by rw [hmm]; exact hcz
  clear HMM
  have HMM := HMM2
  clear HMM2
  have hgw : w.heap.size ≤ g := by omega
  have HC := hide (cutter_new hcz2)
  have HB := hide hbz
  have hgc := hcz.lt
  have HGS := hide hg
  clear hcz hcz2 hb1 hbn hbz hmm hM hs1 hsn hg
  go_wp2_with fail
  rw [← HGS.out]
  generalize wn.alloc (.cells Z0 29) = wc at *
  have hsc := HB.out.size
  have HCT := hide (cut_of wc A n c l A2 m2 c2 ats w.heap.size (hide (HH.out.below HB.out)) hc hm HLN hn (hide ((HA.out.below HB.out).upto hsc)) hc2 hm2 hml)
  go_wp2_with fail
  refine HCT.out.mono ?_
  rintro e wd ⟨vp, xs, ps, rfl, hop, hpc, hfl, hpl, hbd⟩
  have hHop := hop.form (by omega)
  obtain ⟨gx, cp, rfl, hgx, _⟩ := hHop
  obtain ⟨_, cp', hvp, hnp, hcp, _⟩ := own_form' hop
  injection hvp with hAe _ hcpe
  subst hAe hcpe
  have hall : feedAll M fresh ps = R := by rw [feedAll_run M ps fresh (.inl rfl) (by simp [fresh]), hfl, HR.out]
  have hRl : R.1.length ≤ 1000000000 := by have := run_count M l fresh; rw [← HR.out, HLN.out] at this; omega
  have HFE := hide (feeds_of wd g m M fresh ps R gx (m2 + 1) cp wc.heap.size xs (hide ⟨.inl rfl, by simp [fresh]⟩) HMM hM16 (hide (HC.out.below hbd hgc)) (Nat.lt_of_lt_of_le hgc hbd.size) (hide hop) hgc hnp hcp
    (hide fun i p hp => by obtain ⟨Ai, ci, q1, q2, q3, q4⟩ := hpc i p hp; exact ⟨Ai, ci, q1, q2, q3, Off.of (q4.below (hbd.mono hsc)) hgw⟩) (hide hpl)
    (hide fun p hp => by have h1 := mem_flatten_le hp; rw [hfl, HLN.out] at h1; omega) (hide hall.symm) hRl)
  have HBD := hide (HB.out.trans (hbd.mono hsc))
  clear hop hpc hfl hpl hbd hall HCT HC HB
  go_wp2_with fail
  refine HFE.out.mono ?_
  rintro e wf ⟨v1, rfl, hm1, hc1, hn1⟩
  have hsd := HBD.out.size
  have HBF := hide (HBD.out.trans (hn1.below (B := w.heap.size) hgw hsd))
  have hsf := HBF.out.size
  have HM1 := hide hm1
  have HC1 := hide hc1
  have HMO := hide (most_any 16384 wf)
  clear hm1 hc1 hn1 HFE HBD
  go_wp2_with fail
  refine HMO.out.mono ?_
  rintro e we ⟨rfl, rfl⟩
  rw [HMO'.out]
  have HST := hide (stream_of we A n c M l R (hide ((HH.out.below HBF.out).upto hsf)) hc hm HLN hn hM16 HR)
  clear HMO
  go_wp2_with fail
  refine HST.out.mono ?_
  rintro e wg ⟨v2, rfl, hm2', hbg⟩
  obtain ⟨B1, d1, ys1, rfl, k1, k2, k3, k4⟩ := (HM1.out.below hbg).reads
  obtain ⟨B2, d2, ys2, rfl, j1, j2, j3, j4⟩ := hm2'.reads
  have HSM := hide (same_any wg wg.heap.size B1 B2 R.1.length d1 d2 ys1 ys2 R.1 k3 j3 k1 j1 k2 j2 rfl k4 j4)
  have hgf := HC1.out.lt
  have HC2 := hide (HC1.out.below hbg hgf)
  have HBG := hide (HBF.out.trans (hbg.mono hsf))
  clear hm2' hbg k3 k4 j3 j4 HST HM1 HC1 HBF
  have hRS := hRst
  obtain ⟨RL, re, rs⟩ := R
  simp only at hRS
  have HRS := hide hRS
  go_wp2_with fail
  refine HSM.out.mono ?_
  rintro e wh ⟨rfl, hbh⟩
  have hsg := HBG.out.size
  have HBH := hide (HBG.out.trans (hbh.mono hsg))
  obtain ⟨m', _, hcut⟩ := HC2.out.below hbh HC2.out.lt
  have hcut2 : Cut wh g m' (rs.st : Int) rs.buf (rs.buf.length : Int) (rs.ll : Int) (rs.cl : Int) := hcut
  have HWT := hide (waiting_any wh g _ _ _ _ _ _ hcut2)
  have hov := over_any wh g _ _ _ _ _ _ hcut2
  rw [HRS.out] at hov
  have HOV := hide hov
  clear hcut hcut2 hov hbh HSM HC2 HBG
  go_wp2_with fail
  refine HWT.out.mono ?_
  rintro e wi ⟨rfl, rfl⟩
  go_wp2_with fail
  refine HOV.out.mono ?_
  rintro e wj ⟨rfl, rfl⟩
  go_wp2
  go_ret
  exact ⟨by simp, HBH.out⟩

theorem pieces_walk (w : World) (A : Option Addr) (n c : Nat) (l : List UInt8) (h : Has w w.heap.size 1 A n (bys l)) (hc : n ≤ c) (hm : c ≤ maxLen) (hln : l.length = n) (hn : n ≤ 1048576) (A2 : Option Addr) (m2 c2 : Nat) (ats : List UInt8) (h2 : Has w w.heap.size 1 A2 m2 (bys ats)) (hc2 : m2 ≤ c2) (hm2 : c2 ≤ maxLen) (most : Int) (z : Bool) :
    Calls Try.prog 3 #[.slice A n c, .slice A2 m2 c2, .int .i64 most, .bool z] w fun e w' => e = .returned (.bool true) ∧ Below w.heap.size w w' := by
  rcases Nat.lt_or_ge 300 m2 with h3 | h3
  · exact pieces_great w A n c A2 m2 c2 most z h3
  · cases z with
    | true => exact pieces_zero w A n c l A2 m2 c2 ats most _ 16384 (hide h) hc hm (hide hln) hn (hide h2) hc2 hm2 h3 (by omega) (by omega) (hide rfl) (run_state _ _) rfl
    | false =>
      have hmo : 2 ≤ mostOf most ∧ mostOf most ≤ 16384 := by unfold mostOf; omega
      exact pieces_new w A n c l A2 m2 c2 ats most _ (mostOf most).toNat (hide h) hc hm (hide hln) hn (hide h2) hc2 hm2 h3 (by omega) (by omega) (hide rfl) (run_state _ _) (by omega)


end Go.Proofs.Ytgdaangbgmmgmaa.Frame
