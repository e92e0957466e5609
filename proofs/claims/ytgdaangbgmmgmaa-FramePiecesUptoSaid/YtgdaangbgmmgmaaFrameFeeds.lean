/-
  A cutter is fed with pieces, as the laws do it.
-/
import Derived.Test.YtgdaangbgmmgmaaFrameCuts
namespace Go.Proofs.Ytgdaangbgmmgmaa.Frame
open Go.RowKit Go.Proofs.Ytgdaangbgmmgmaa.Ber

theorem Msgs.join {w w' : World} {base : Nat} {v v' : Value} {L L2 : List (List UInt8)} {xs xs2 : List Value} (hx : w.ownsRow base 22 1 v L.length xs)
    (he : ∀ (i : Nat) (l : List UInt8), L[i]? = some l → ∃ u, xs[i]? = some u ∧ w.ownsRow base 5 1 u l.length (bys l))
    (he2 : ∀ (i : Nat) (l : List UInt8), L2[i]? = some l → ∃ u, xs2[i]? = some u ∧ w.ownsRow base 5 1 u l.length (bys l)) (_hl2 : xs2.length = L2.length)
    (ho : w'.ownsRow base 22 1 v' (L.length + L2.length) (xs ++ xs2)) (hg : w.grownBy w' v.ownBlock) : Msgs w' base v' (L ++ L2) := by
  have hxl : xs.length = L.length := by simpa using hx.1
  refine ⟨xs ++ xs2, by rw [List.length_append]; exact ho, fun i m hm => ?_⟩
  rcases Nat.lt_or_ge i L.length with hi | hi
  · rw [List.getElem?_append_left hi] at hm
    obtain ⟨z, hz, hzo⟩ := he i m hm
    exact ⟨z, by rw [List.getElem?_append_left (by omega)]; exact hz, hzo.kept hg (own_apart hzo hx)⟩
  · rw [List.getElem?_append_right hi] at hm
    obtain ⟨z, hz, hzo⟩ := he2 _ m hm
    exact ⟨z, by rw [List.getElem?_append_right (by omega), hxl]; exact hz, hzo.kept hg (own_apart hzo hx)⟩

theorem slices_one {w : World} {base : Nat} {xs : List Value} {L : List (List UInt8)} (hl : xs.length = L.length) (he : ∀ (i : Nat) (l : List UInt8), L[i]? = some l → ∃ u, xs[i]? = some u ∧ w.ownsRow base 5 1 u l.length (bys l)) : ∀ u ∈ xs, u.oneCell' = true := by
  intro u hu
  obtain ⟨i, hi, rfl⟩ := List.mem_iff_getElem.1 hu
  obtain ⟨z, hz, hzo⟩ := he i _ (List.getElem?_eq_getElem (show i < L.length by omega))
  rw [List.getElem?_eq_getElem hi] at hz
  injection hz with hz
  rw [hz]
  rcases hzo.2 with ⟨rfl, _⟩ | ⟨g, cap, cur, rfl, _⟩ <;> rfl

/-- Each element of the list of slices reads as its piece, elsewhere than in block g. -/
def PcsO (w : World) (g : Nat) (xs : List Value) (ps : List (List UInt8)) : Prop :=
  ∀ (i : Nat) (p : List UInt8), ps[i]? = some p → ∃ A c, xs[i]? = some (Value.slice A p.length c) ∧ p.length ≤ c ∧ c ≤ maxLen ∧ Off w g A p.length (bys p)

/-- What a feeding answers. -/
def FedAll (w : World) (g : Nat) (m : Int) (R : Out) (e : Ending) (w' : World) : Prop :=
  ∃ v, e = .returned (.tuple #[v, .int .i64 R.2.1]) ∧ Msgs w' w.heap.size v R.1 ∧ Cutter w' g m R.2.2 ∧ Near g w w'

theorem run_fed (M : Nat) (s : CS) (p : List UInt8) (hs : Ok M s) (h4 : s.st ≠ 4) (h : (feedOf M s p).2.1 = 0) : (feedOf M s p).2.2.st ≠ 4 := by
  have e : feedOf M s p = run M s p := if_neg h4
  rw [e] at h ⊢
  exact (run_keeps M p s hs h4 h).2

set_option maxRecDepth 100000 in
set_option maxHeartbeats 6400000 in
theorem feeds_of (w : World) (g : Nat) (m : Int) (M : Nat) (s0 : CS) (ps : List (List UInt8)) (R : Out) (gx np cp bx : Nat) (xs : List Value) (HS : Hid (Ok M s0 ∧ s0.st ≠ 4)) (HMM : Hid ((if m = 0 then 16384 else m) = (M : Int))) (hM16 : M ≤ 16384)
    (HC0 : Hid (Cutter w g m s0)) (hg : g < w.heap.size) (HX : Hid (w.ownsRow bx 22 1 (.slice (some ⟨gx, 0, none⟩) np cp) np xs)) (hgb : g < bx) (hnp : np ≤ cp) (hcp : cp ≤ maxLen) (HP : Hid (PcsO w g xs ps)) (HL : Hid (ps.length = np))
    (HSZ : Hid (∀ p ∈ ps, p.length ≤ 999999999999)) (HR0 : Hid (R = feedAll M s0 ps)) (hRl : R.1.length ≤ 1000000000) :
    Calls Try.prog 10 #[.pointer (some ⟨g, 0, none⟩), .slice (some ⟨gx, 0, none⟩) np cp] w (FedAll w g m R) := by
  have hcp' : cp ≤ 9223372036854775807 := hcp
  go_enter Try.func10, Try.ntmps10
  go_wp2
  go_loopw [6, 12] (fun av i wr => ∃ (k : Nat) (L : List (List UInt8)) (s : CS), i = .int .i64 k ∧ k ≤ np ∧ Hid (Msgs wr w.heap.size av L) ∧ Hid (Cutter wr g m s) ∧ Hid (Ok M s ∧ s.st ≠ 4) ∧ Hid (Near g w wr) ∧ Hid (R = pre L (feedAll M s (ps.drop k))))
    (fun _ i _ => np - (intOf i).toNat)
  case atStart => exact ⟨0, [], s0, rfl, Nat.zero_le _, hide (Msgs.nothing _ _), HC0, HS, hide (Near.refl _ _), by rw [HR0.out, pre_nil]; exact hide rfl⟩
  case round =>
    obtain ⟨k, L, s, rfl, hk, HM, HC, HOK, HN, HR⟩ := hrel
    by_cases hlt : k < np
    · obtain ⟨p, hp⟩ : ∃ p, ps[k]? = some p := ⟨_, List.getElem?_eq_getElem (by rw [HL.out]; exact hlt)⟩
      obtain ⟨A, c, hx, hpc, hcm, hoff⟩ := HP.out k p hp
      have hrow := own_near HX.out HN.out hgb
      have hcell := hrow.cells (g := gx) rfl k _ hx
      have hcell' : wr.cell? ⟨gx, k, none⟩ = some (.slice A p.length c) := by
        rw [show (⟨gx, 0, none⟩ : Addr).add k = ⟨gx, k, none⟩ by unfold Addr.add; split <;> simp_all] at hcell
        exact hcell
      have hki : (k : Int) < (np : Int) := by omega
      have hdrop : ps.drop k = p :: ps.drop (k + 1) := by
        obtain ⟨hk1, hk2⟩ := List.getElem?_eq_some_iff.1 hp
        rw [List.drop_eq_getElem_cons hk1, hk2]
      have hf := feed_any wr g m M s p HOK.out.1 HMM.out hM16 HC.out A p.length c (hoff.near HN.out) hpc hcm (fun _ => HSZ.out p (List.mem_of_getElem? hp))
      have hok2 := feed_ok M s p HOK.out.1
      have hst2 := run_fed M s p HOK.out.1 HOK.out.2
      have hR2 := HR.out
      rw [hdrop, feedAll] at hR2
      obtain ⟨Q, hQ⟩ : ∃ Q, Q = feedOf M s p := ⟨_, rfl⟩
      rw [← hQ] at hf hok2 hst2 hR2
      obtain ⟨L2, e2, s2⟩ := Q
      simp only at hok2 hst2 hR2
      unfold FeedSays at hf
      have HFD := hide hf
      obtain ⟨np1, hnp1⟩ : ∃ np1, np1 = p.length := ⟨_, rfl⟩
      rw [← hnp1] at hcell' HFD hpc
      have HOK2 := hide hok2
      clear hp hx hoff hrow hcell hdrop hf hok2 hQ hnp1 hpc HOK HR
      by_cases he0 : e2 = 0
      · subst he0
        rw [if_pos rfl, pre_pre] at hR2
        have hlen : (L ++ L2).length ≤ R.1.length := by rw [hR2]; simp [pre]
        rw [List.length_append] at hlen
        have HR2 := hide hR2
        have HST := hide (hst2 rfl)
        clear hR2 hst2
        go_wp2_with fail
        refine HFD.out.mono ?_
        rintro e w2 ⟨v2, rfl, hm2, hc2, hn2⟩
        obtain ⟨xs1, hx1, he1⟩ := HM.out.near hn2 hg
        obtain ⟨xs2, hx2, he2⟩ := hm2
        obtain ⟨A2, c2, rfl, hc2', hc2m, hH2⟩ := own_form' hx2
        have hsw : w.heap.size ≤ wr.heap.size := HN.out.size
        have he2b : ∀ (i : Nat) (l : List UInt8), L2[i]? = some l → ∃ u, xs2[i]? = some u ∧ w2.ownsRow w.heap.size 5 1 u l.length (bys l) := fun i l hl => (he2 i l hl).imp fun u hu => ⟨hu.1, own_base hu.2 hsw⟩
        have hxl2 : xs2.length = L2.length := by simpa using hx2.1
        have hone : ∀ u ∈ xs2, u.oneCell' = true := slices_one hxl2 he2b
        have hnw2 := HN.out.trans hn2
        have hsw2 := hnw2.size
        have HE1 := hide he1
        have HE2 := hide he2b
        have HC2 := hide hc2
        have HN2 := hide hnw2
        clear he1 he2 he2b hc2 hn2 hnw2 hx2 HFD HM HN HC
        go_wp2_with (at_builtin; go_must (refine app22 _ rfl (.tmp 24) (.tmp 25) rfl w.heap.size _ L.length xs1 rfl hx1 _ _ L2.length c2 xs2 rfl hH2 hone (by omega) hsw2 ?_))
        intro v3 w3 ho3 hat3 hg3
        have hm3 := Msgs.join hx1 HE1.out HE2.out hxl2 ho3 hg3
        have hb3 : Below w.heap.size w2 w3 := below_grown hx1 hg3 hsw2
        have hn3 := HN2.out.thenBelow hb3
        have hc3 := HC2.out.below hb3 hg
        have HM3 := hide hm3
        have HN3 := hide hn3
        have HC3 := hide hc3
        clear hm3 hb3 hn3 hc3 ho3 hat3 hg3 hx1 hH2 hone HE1 HE2 HN2 HC2
        go_wp2
        go_roundw
        case rel => exact ⟨k + 1, L ++ L2, s2, by go_num, by omega, HM3, HC3, hide ⟨HOK2.out, HST.out⟩, HN3, HR2⟩
        case measure => simp [intOf]; omega
      · rw [if_neg he0] at hR2
        have hR3 : R = (L ++ L2, e2, s2) := hR2
        have hlen : (L ++ L2).length ≤ R.1.length := by rw [hR3]; exact Nat.le_refl _
        rw [List.length_append] at hlen
        have HR3 := hide hR3
        clear hR2 hst2 hR3
        go_wp2_with fail
        refine HFD.out.mono ?_
        rintro e w2 ⟨v2, rfl, hm2, hc2, hn2⟩
        obtain ⟨xs1, hx1, he1⟩ := HM.out.near hn2 hg
        obtain ⟨xs2, hx2, he2⟩ := hm2
        obtain ⟨A2, c2, rfl, hc2', hc2m, hH2⟩ := own_form' hx2
        have hsw : w.heap.size ≤ wr.heap.size := HN.out.size
        have he2b : ∀ (i : Nat) (l : List UInt8), L2[i]? = some l → ∃ u, xs2[i]? = some u ∧ w2.ownsRow w.heap.size 5 1 u l.length (bys l) := fun i l hl => (he2 i l hl).imp fun u hu => ⟨hu.1, own_base hu.2 hsw⟩
        have hxl2 : xs2.length = L2.length := by simpa using hx2.1
        have hone : ∀ u ∈ xs2, u.oneCell' = true := slices_one hxl2 he2b
        have hnw2 := HN.out.trans hn2
        have hsw2 := hnw2.size
        have HE1 := hide he1
        have HE2 := hide he2b
        have HC2 := hide hc2
        have HN2 := hide hnw2
        clear he1 he2 he2b hc2 hn2 hnw2 hx2 HFD HM HN HC
        go_wp2_with (at_builtin; go_must (refine app22 _ rfl (.tmp 24) (.tmp 25) rfl w.heap.size _ L.length xs1 rfl hx1 _ _ L2.length c2 xs2 rfl hH2 hone (by omega) hsw2 ?_))
        intro v3 w3 ho3 hat3 hg3
        have hm3 := Msgs.join hx1 HE1.out HE2.out hxl2 ho3 hg3
        have hb3 : Below w.heap.size w2 w3 := below_grown hx1 hg3 hsw2
        have hn3 := HN2.out.thenBelow hb3
        have hc3 := HC2.out.below hb3 hg
        have HM3 := hide hm3
        have HN3 := hide hn3
        have HC3 := hide hc3
        clear hm3 hb3 hn3 hc3 ho3 hat3 hg3 hx1 hH2 hone HE1 HE2 HN2 HC2
        go_wp2
        go_ret2
        refine ⟨v3, ?_, ?_, ?_, HN3.out⟩
        · rw [HR3.out]; rfl
        · rw [HR3.out]; exact HM3.out
        · rw [HR3.out]; exact HC3.out
    · obtain rfl : k = np := by omega
      have hR2 := HR.out
      rw [List.drop_eq_nil_of_le (by rw [HL.out]; exact Nat.le_refl _), feedAll] at hR2
      have hR3 : R = (L, 0, s) := by rw [hR2]; simp [pre]
      have HR3 := hide hR3
      clear hR2 hR3 HR
      go_wp2
      go_ret2
      refine ⟨u6, ?_, ?_, ?_, HN.out⟩
      · rw [HR3.out]; rfl
      · rw [HR3.out]; exact HM.out
      · rw [HR3.out]; exact HC.out


end Go.Proofs.Ytgdaangbgmmgmaa.Frame
