/-
  'FrameLong': a message of just so many bytes is taken, one of a byte more isn't.
-/
import Derived.Test.YtgdaangbgmmgmaaFrameNil
namespace Go.Proofs.Ytgdaangbgmmgmaa.Frame
open Go.RowKit Go.Proofs.Ytgdaangbgmmgmaa.Ber

theorem feed_whole (M : Nat) (l : List UInt8) (hl : l.length ≤ 2147483647) (hM : (fieldOf 48 l).length ≤ M) : feedOf M fresh (fieldOf 48 l) = ([fieldOf 48 l], 0, fresh) := by
  have h := run_field M l [] hl hM
  rw [List.append_nil] at h
  unfold feedOf
  rw [if_neg (by simp [fresh]), h]
  rfl

theorem feed_long (M : Nat) (l : List UInt8) (hl : l.length ≤ 2147483647) (hM : M < (fieldOf 48 l).length) : feedOf M fresh (fieldOf 48 l) = ([], 4, ended) := by
  have h := run_long M l [] hl hM
  rw [List.append_nil] at h
  unfold feedOf
  rw [if_neg (by simp [fresh]), h]

set_option maxRecDepth 100000 in
set_option maxHeartbeats 3200000 in
theorem long_of (w : World) (x : Int) (n : Nat) (hx : x.tmod 2000 = (n : Int)) (hn : n < 2000) (F : List UInt8) (h2 : 2 ≤ F.length) (h16 : F.length ≤ 16384) (hz : n = 0 → F.length = 2) (h3 : 0 < n → 3 ≤ F.length)
    (HFL : Hid (∀ (W : World) (A : Option Addr) (c : Nat), Has W W.heap.size 1 A n (bys (List.replicate n 0)) → Calls Try.prog 17 #[.int .u8 48, .slice A n c] W fun e w' =>
      ∃ v, e = .returned v ∧ w'.ownsRow W.heap.size 5 1 v F.length (bys F) ∧ Below W.heap.size W w'))
    (HR1 : Hid (feedOf F.length fresh F = ([F], 0, fresh))) (HR2 : Hid (feedOf (F.length - 1) fresh F = ([], 4, ended))) :
    Calls Try.prog 6 #[.int .u16 x] w fun e w' => e = .returned (.bool true) ∧ Below w.heap.size w w' := by
  obtain ⟨i0, hi, hz0, hz1, hz2⟩ := info_parts info8
  have hn0 : (0 : Int) ≤ (n : Int) := by omega
  go_enter Try.func6, Try.ntmps6
  go_wp2_with fail
  refine (awake_any _).mono ?_
  rintro e w1 ⟨rfl, hb1⟩
  go_wp2_with (at_make; refine wpList_make_full _ rfl _ _ 22 rfl w1.heap.size 5 i0 _ 1 Try.underlying22 hi hz0 hz1 .i64 .i64 _ _ n rfl rfl rfl rfl ?b1 ?b2 (Nat.le_refl _) ?_)
  case b1 => rw [hz2]; omega
  case b2 => unfold maxLen; omega
  intro w2 hown hg
  have hb2 : Below w1.heap.size w1 w2 := (Below.refl _ _).grown hg (Nat.le_refl _) (by simp)
  rw [toList_madeCells_one] at hown
  have hH : Has w2 w2.heap.size 1 (some ⟨w1.heap.size, 0, none⟩) n (bys (List.replicate n 0)) := by
    have := Has.own hown
    have e : bys (List.replicate n 0) = List.replicate n (.int .u8 0) := by simp [bys, c8]
    rw [e]
    exact this
  have HFL2 := hide (HFL.out w2 _ n hH)
  have hbw2 := hb1.trans (hb2.mono hb1.size)
  clear hown hg hH HFL hb1 hb2
  go_wp2_with fail
  refine HFL2.out.mono ?_
  rintro e wf ⟨vF, rfl, hoF, hbF⟩
  obtain ⟨AF, cF, rfl, hcF, hmF, hHF0⟩ := own_form' hoF
  have hbwf := hbw2.trans (hbF.mono hbw2.size)
  have hswf := hbwf.size
  clear hoF hbF HFL2 hbw2
  rcases Nat.eq_zero_or_pos n with hn00 | hnp
  · have hFl := hz hn00
    have hlt : (F.length : Int) < 3 := by omega
    go_wp2
    go_ret
    exact ⟨rfl, hbwf⟩
  · have hFl := h3 hnp
    have hlt : ¬ (F.length : Int) < 3 := by omega
    have HM1 := hide (new_any (F.length : Int) wf)
    go_wp2_with fail
    refine HM1.out.mono ?_
    rintro e wn ⟨rfl, hcn, hbn⟩
    rw [most_of F.length h2 h16] at hcn
    have hf1 := feed_any wn wf.heap.size (F.length : Int) F.length fresh F (.inl rfl) (most_if F.length h2) h16 (cutter_new hcn) AF F.length cF (Off.of (hHF0.below hbn) (Nat.le_refl _)) hcF hmF (fun _ => by omega)
    rw [HR1.out] at hf1
    unfold FeedSays at hf1
    have HF1 := hide hf1
    have hHFn := hHF0.below hbn
    have hbwn := hbwf.trans (hbn.mono hswf)
    have hgn := hcn.lt
    clear hf1 hcn HM1
    go_wp2_with fail
    refine HF1.out.mono ?_
    rintro e w3 ⟨v3, rfl, hm3, _, hn3⟩
    obtain ⟨gv, cv, A5, c5, rfl, hcv1, hcvm, _, _, _⟩ := hm3.one
    have hbw3 := hbwn.trans (hn3.below (B := w.heap.size) hswf (by omega))
    have hHF3 := (hHFn.below (hn3.below (Nat.le_refl _) (by omega))).upto (show wf.heap.size ≤ w3.heap.size from Nat.le_trans (Nat.le_of_lt hgn) hn3.size)
    have hsw3 := hbw3.size
    have hsub : (F.length : Int) - 1 = ((F.length - 1 : Nat) : Int) := by omega
    have HM2 := hide (new_any ((F.length - 1 : Nat) : Int) w3)
    clear hm3 hn3 hHFn hHF0 hbn HF1 hbwf hbwn
    obtain ⟨D, hD⟩ : ∃ D, D = F.length - 1 := ⟨_, rfl⟩
    rw [← hD] at HM2 HR2 hsub
    have hD2 : 2 ≤ D := by omega
    have hD16 : D ≤ 16384 := by omega
    clear hD
    go_wp2_with fail
    refine HM2.out.mono ?_
    rintro e w4 ⟨rfl, hcn, hbn⟩
    rw [most_of D hD2 hD16] at hcn
    have hf1 := feed_any w4 w3.heap.size (D : Int) D fresh F (.inl rfl) (most_if D hD2) hD16 (cutter_new hcn) AF F.length cF (Off.of (hHF3.below hbn) (Nat.le_refl _)) hcF hmF (fun _ => by omega)
    rw [HR2.out] at hf1
    unfold FeedSays at hf1
    have HF2 := hide hf1
    have hbw4 := hbw3.trans (hbn.mono hsw3)
    have hgn4 := hcn.lt
    clear hf1 hcn HM2 hHF3
    go_wp2_with fail
    refine HF2.out.mono ?_
    rintro e w5 ⟨v5, rfl, hm5, _, hn5⟩
    obtain ⟨A6, c6, rfl⟩ := hm5.zero
    have hbw5 := hbw4.trans (hn5.below (B := w.heap.size) hsw3 (by omega))
    clear hm5 hn5 HF2 hbw4 hbn
    go_wp2
    go_ret
    exact ⟨rfl, hbw5⟩

theorem long_walk (w : World) (x : Int) (h0 : 0 ≤ x) (h1 : x ≤ 65535) :
    Calls Try.prog 6 #[.int .u16 x] w fun e w' => e = .returned (.bool true) ∧ Below w.heap.size w w' := by
  obtain ⟨X, rfl⟩ := Int.eq_ofNat_of_zero_le h0
  have hx : (X : Int).tmod 2000 = ((X % 2000 : Nat) : Int) := by rw [Int.tmod_eq_emod_of_nonneg (by omega)]; omega
  obtain ⟨n, hn⟩ : ∃ n, n = X % 2000 := ⟨_, rfl⟩
  rw [← hn] at hx
  have hl : (List.replicate n (0 : UInt8)).length = n := List.length_replicate
  have h2 := fieldOf_two 48 (List.replicate n 0) (by rw [hl]; omega)
  have h3 := fieldOf_length 48 (List.replicate n 0)
  rw [hl] at h2 h3
  refine long_of w X n hx (by omega) (fieldOf 48 (List.replicate n 0)) h2.1 (by omega) ?_ ?_ (hide fun W A c hH => rfield_any 48 W W.heap.size A n c _ hH (Nat.le_refl _) (by omega)) (hide (feed_whole _ _ (by rw [hl]; omega) (Nat.le_refl _))) (hide (feed_long _ _ (by rw [hl]; omega) (by omega)))
  · rintro rfl
    rfl
  · intro hp
    have : 1 ≤ (lenOf (n : Int)).length := by
      unfold lenOf
      rw [if_neg (by omega)]
      split <;> simp
    omega


end Go.Proofs.Ytgdaangbgmmgmaa.Frame
