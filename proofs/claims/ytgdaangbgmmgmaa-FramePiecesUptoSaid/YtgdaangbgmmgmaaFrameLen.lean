/-
  The bytes behind a length's first one: their number, and what the cutter keeps of them.
-/
import Derived.Test.YtgdaangbgmmgmaaFrameParts
import Derived.Test.YtgdaangbgmmgmaaRefs
namespace Go.Proofs.Ytgdaangbgmmgmaa.Frame
open Go.RowKit

/-- The number that bytes say, read on from a number. -/
def bev (s : Nat) (l : List UInt8) : Nat := l.foldl (fun a b => a * 256 + b.toNat) s

theorem bev_snoc (s : Nat) (l : List UInt8) (b : UInt8) : bev s (l ++ [b]) = bev s l * 256 + b.toNat := by simp [bev]
theorem bev_lt (l : List UInt8) : ∀ s n : Nat, s < 256 ^ n → bev s l < 256 ^ (n + l.length) := by
  induction l with
  | nil => intro s n h; simpa [bev] using h
  | cons b r ih =>
    intro s n h
    have h1 : s * 256 + b.toNat < 256 ^ (n + 1) := by
      have := b.toNat_lt
      rw [Nat.pow_succ]
      omega
    have := ih _ _ h1
    rw [List.length_cons, show n + (r.length + 1) = n + 1 + r.length by omega]
    simpa [bev] using this

set_option maxRecDepth 100000 in
set_option maxHeartbeats 1600000 in
theorem length_any (w : World) (g : Nat) (m st : Int) (ll cl : Nat) (H : List UInt8) (hc : Cut w g m st H (H.length : Int) (ll : Int) (cl : Int)) (A : Option Addr) (n c : Nat) (l : List UInt8)
    (hp : Off w g A n (bys l)) (hnc : n ≤ c) (hcm : c ≤ maxLen) (hll : ll ≤ 4) (hcl : cl < 256 ^ (4 - ll)) (hfit : H.length + ll ≤ 16384) (hH : H.length < 16384) :
    Reads 24 w g m st H A n c l (min ll n) ((ll - min ll n : Nat) : Int) ((bev cl (l.take (min ll n)) : Nat) : Int) := by
  obtain ⟨k, hk⟩ : ∃ k, k = min ll n := ⟨_, rfl⟩
  rw [← hk]
  have hkn : k ≤ n := by omega
  have hkl : k ≤ ll := by omega
  have hkc : k ≤ c := by omega
  unfold Reads
  have hln : l.length = n := by simpa [bys] using hp.1
  have hcm' : c ≤ 9223372036854775807 := hcm
  obtain ⟨D, hD⟩ : ∃ D : Int, D = ((ll - k : Nat) : Int) := ⟨_, rfl⟩
  obtain ⟨N', hN⟩ : ∃ N', N' = n - k := ⟨_, rfl⟩
  obtain ⟨C', hC⟩ : ∃ C', C' = c - k := ⟨_, rfl⟩
  obtain ⟨U, hU⟩ : ∃ U : Nat → Nat, U = fun j => bev cl (l.take j) := ⟨_, rfl⟩
  have hUj : ∀ j, j < k → ∃ y : Nat, y < 256 ∧ (∃ gp o, A = some ⟨gp, o, none⟩ ∧ gp ≠ g ∧ w.cell? ⟨gp, o + j, none⟩ = some (.int .u8 (y : Int))) ∧ U (j + 1) = U j * 256 + y ∧ U j < 16777216 := by
    intro j hj
    have hjl : j < l.length := by omega
    refine ⟨(l[j]).toNat, (l[j]).toNat_lt, ?_, ?_, ?_⟩
    · rcases hp.2 with h | ⟨ad, e, hb, hcl⟩
      · have h0 : l = [] := by simpa [bys] using h
        rw [h0] at hjl
        simp at hjl
      · have h1 := hcl j (.int .u8 (l[j].toNat : Int)) (by simp [bys, hjl, c8])
        obtain ⟨gp, o, sp⟩ := ad
        have h00 := hcl 0 _ (List.getElem?_eq_getElem (by rw [bys_length]; omega))
        have hsp : sp = none := by simpa [Addr.add] using World.cell?_spot h00
        subst hsp
        rw [show (⟨gp, o, none⟩ : Addr).add j = ⟨gp, o + j, none⟩ by unfold Addr.add; split <;> simp_all] at h1
        exact ⟨gp, o, e, hb, h1⟩
    · rw [hU]
      show bev cl (l.take (j + 1)) = bev cl (l.take j) * 256 + _
      rw [List.take_succ_eq_append_getElem hjl, bev_snoc]
    · rw [hU]
      have h2 := bev_lt (l.take j) cl (4 - ll) hcl
      have h3 : 256 ^ (4 - ll + (l.take j).length) ≤ 256 ^ 3 := Nat.pow_le_pow_right (by omega) (by rw [List.length_take]; omega)
      exact Nat.lt_of_lt_of_le h2 h3
  have hU0 : U 0 = cl := by rw [hU]; rfl
  have hUk : U k = bev cl (l.take k) := by rw [hU]
  rw [← hD, ← hN, ← hC, ← hUk]
  have HUJ := hide hUj
  have HU0 := hide hU0
  clear hUj hU0 hUk hU
  have HN := hide hN
  have HC := hide hC
  have HP := hide hp
  have HB := hide hcl
  have HCUT := hide hc
  have c1 := hc.left
  clear hN hC hp hcl hc
  rcases Nat.lt_or_ge n ll with hc | hc
  · obtain rfl : k = n := by omega
    have h1 : (k : Int) < (ll : Int) := by omega
    clear hk
    have HD := hide hD
    clear hD
    go_enter Try.func24, Try.ntmps24
    go_wp2
    go_loopw [19] (fun i wr => ∃ j : Nat, j ≤ k ∧ i = .int .i64 j ∧ Hid (Cut wr g m st H (H.length : Int) (ll : Int) (U j : Int)) ∧ Near g w wr) (fun i _ => k - (intOf i).toNat)
    case atStart => exact ⟨0, Nat.zero_le _, rfl, by rw [HU0.out]; exact HCUT, Near.refl _ _⟩
    case round =>
      obtain ⟨j, hj, rfl, hcr, hnr⟩ := hrel
      by_cases hlt : j < k
      · obtain ⟨y, hy, ⟨gp, o, rfl, hne, hcell⟩, hsv, hs0⟩ := HUJ.out j hlt
        have hcl1 : wr.cell? ⟨gp, o + j, none⟩ = some (.int .u8 (y : Int)) := (World.cell?_of_block (hnr.block gp (World.block_lt_of_cell? w _ hcell) hne)).trans hcell
        have c2 := hcr.out.want
        have f2 := hcr.out.frozen 16388
        have HSV := hide hsv
        have hcn := hcr.out.setWant ((U j * 256 + y : Nat) : Int)
        rw [← hsv] at hcn
        have HN2 := hide (hnr.trans (Near.setCell g 16388 wr (.int .i64 (U (j + 1) : Int))))
        have HCN := hide hcn
        clear hsv hcr hnr hcell hcn
        have hor := Ber.or_low (U j : Int) (y : Int) (by omega) (by omega) (by omega) (by omega)
        go_wp2
        go_roundw
        case rel =>
          have e : (U j : Int) * 256 + (y : Int) = ((U (j + 1) : Nat) : Int) := by rw [HSV.out]; simp
          rw [e]
          exact ⟨j + 1, by omega, by go_num, HCN, HN2.out⟩
        case measure => simp [intOf]; omega
      · obtain rfl : j = k := by omega
        have c2 := hcr.out.left
        have f2 := hcr.out.frozen 16387
        have hcn := hcr.out.setLeft D
        have hn2 := Near.setCell g 16387 wr (.int .i64 D)
        have hn1 := hnr.trans hn2
        have hh := hold_any _ g m st D (U j : Int) H hcn A j c l j ((HP.out.near hnr).near hn2) hkn hnc hcm (by omega) hH
        unfold Held at hh
        rw [← HN.out, ← HC.out] at hh
        have HH := hide hh
        have hsub : (ll : Int) - (j : Int) = D := by have := HD.out; omega
        have HN1 := hide hn1
        clear hh hcn hn1 hn2 hcr hnr c1 HUJ HU0 HCUT HN HC HP HB
        go_wp2_with fail
        refine HH.out.mono ?_
        rintro e w2 ⟨A', rfl, o1, o2, o3⟩
        go_wp2
        go_ret
        exact ⟨_, rfl, o1, o2, HN1.out.trans o3⟩
  · obtain rfl : k = ll := by omega
    have h1 : (k : Int) ≤ (n : Int) := by omega
    clear hk
    obtain rfl : D = 0 := by omega
    clear hD
    go_enter Try.func24, Try.ntmps24
    go_wp2
    go_loopw [19] (fun i wr => ∃ j : Nat, j ≤ k ∧ i = .int .i64 j ∧ Hid (Cut wr g m st H (H.length : Int) (k : Int) (U j : Int)) ∧ Near g w wr) (fun i _ => k - (intOf i).toNat)
    case atStart => exact ⟨0, Nat.zero_le _, rfl, by rw [HU0.out]; exact HCUT, Near.refl _ _⟩
    case round =>
      obtain ⟨j, hj, rfl, hcr, hnr⟩ := hrel
      by_cases hlt : j < k
      · obtain ⟨y, hy, ⟨gp, o, rfl, hne, hcell⟩, hsv, hs0⟩ := HUJ.out j hlt
        have hcl1 : wr.cell? ⟨gp, o + j, none⟩ = some (.int .u8 (y : Int)) := (World.cell?_of_block (hnr.block gp (World.block_lt_of_cell? w _ hcell) hne)).trans hcell
        have c2 := hcr.out.want
        have f2 := hcr.out.frozen 16388
        have HSV := hide hsv
        have hcn := hcr.out.setWant ((U j * 256 + y : Nat) : Int)
        rw [← hsv] at hcn
        have HN2 := hide (hnr.trans (Near.setCell g 16388 wr (.int .i64 (U (j + 1) : Int))))
        have HCN := hide hcn
        clear hsv hcr hnr hcell hcn
        have hor := Ber.or_low (U j : Int) (y : Int) (by omega) (by omega) (by omega) (by omega)
        go_wp2
        go_roundw
        case rel =>
          have e : (U j : Int) * 256 + (y : Int) = ((U (j + 1) : Nat) : Int) := by rw [HSV.out]; simp
          rw [e]
          exact ⟨j + 1, by omega, by go_num, HCN, HN2.out⟩
        case measure => simp [intOf]; omega
      · obtain rfl : j = k := by omega
        have c2 := hcr.out.left
        have f2 := hcr.out.frozen 16387
        have hcn := hcr.out.setLeft 0
        have hn2 := Near.setCell g 16387 wr (.int .i64 0)
        have hn1 := hnr.trans hn2
        have hh := hold_any _ g m st 0 (U j : Int) H hcn A n c l j ((HP.out.near hnr).near hn2) hkn hnc hcm (by omega) hH
        unfold Held at hh
        rw [← HN.out, ← HC.out] at hh
        have HH := hide hh
        have HN1 := hide hn1
        clear hh hcn hn1 hn2 hcr hnr c1 HUJ HU0 HCUT HN HC HP HB
        go_wp2_with fail
        refine HH.out.mono ?_
        rintro e w2 ⟨A', rfl, o1, o2, o3⟩
        go_wp2
        go_ret
        exact ⟨_, rfl, o1, o2, HN1.out.trans o3⟩

end Go.Proofs.Ytgdaangbgmmgmaa.Frame
