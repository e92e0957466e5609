/-
  The contract of the document's own List.
-/
import Derived.Test.YtjannmoijoakcaaBerList
namespace Go.Proofs.Ytjannmoijoakcaa.Ber
open Go.RowKit

set_option maxRecDepth 100000 in
set_option maxHeartbeats 3200000 in
theorem rlist_of (w : World) (A : Option Addr) (n c : Nat) (l : List UInt8) (R : List UInt8 × List (List UInt8) × Int) (h : Has w w.heap.size 1 A l.length (bys l)) (hc : l.length ≤ c) (hm : c ≤ maxLen) (hn : l.length ≤ n) (hn8 : n ≤ 1048576)
    (HR : Hid (listGo n [] [] l = R)) :
    Calls Try.prog 28 #[.slice A l.length c] w (LSp w R) := by
  have hk0 := Kept.start w w.heap.size
  have hb0 : Below w.heap.size w w := Below.refl _ _
  go_enter Try.func28, Try.ntmps28
  go_wp2
  go_loopw [0, 5, 6] (fun rv tv cv wr => ∃ (f : Nat) (T rem : List UInt8) (xs : List Value) (L : List (List UInt8)) (Ar : Option Addr) (cr : Nat),
      rv = .slice Ar rem.length cr ∧ rem.length ≤ cr ∧ cr ≤ maxLen ∧ rem.length ≤ f ∧ T.length + rem.length ≤ n ∧ L.length + rem.length ≤ n ∧ Hid (listGo f T L rem = R) ∧ Has wr wr.heap.size 1 Ar rem.length (bys rem) ∧ Off tv Ar rem ∧ Off cv Ar rem ∧ Kept wr w.heap.size tv cv T xs L ∧ Below w.heap.size w wr)
    (fun rv _ _ _ => sliceLen rv)
  case atStart => exact ⟨n, [], l, [], [], A, c, rfl, hc, hm, hn, by simpa using hn, by simpa using hn, HR, h, Off.nil _ _, Off.nil _ _, hk0, hb0⟩
  case round =>
    obtain ⟨f, T, rem, xs, L, Ar, cr, rfl, hcr, hmr, hf, hT, hL, HG, hH, of1, of2, hK, hbr⟩ := hrel
    clear hk0 hb0 HR h hc hm hn of1 of2
    by_cases hr : rem = []
    · subst hr
      have hg := HG.out
      rw [listGo_nil] at hg
      subst hg
      clear HG
      go_wp2
      go_ret3
      exact ⟨_, _, xs, rfl, hK, hbr⟩
    · have hless := takeOf_less rem hr
      have hle := takeOf_le rem
      have hpos : 0 < rem.length := List.length_pos_iff.2 hr
      obtain ⟨f, rfl⟩ : ∃ f', f = f' + 1 := ⟨f - 1, by omega⟩
      have hg := HG.out
      rw [listGo, if_neg hr] at hg
      have hcut := rtake_any wr Ar rem.length cr rem hH hcr hmr (by omega)
      obtain ⟨k, con, rest, err, ht⟩ : ∃ k con rest err, takeOf rem = (k, con, rest, err) := ⟨_, _, _, _, rfl⟩
      rw [ht] at hcut hg hless hle
      simp only at hcut hg hless hle
      have HCUT := hide hcut
      have HGG := hide hg
      clear hcut hg HG ht hr
      by_cases he : err = 0
      · subst he
        have hk8 := c8_lit k hless.2
        have HK8 := hide hk8
        clear hk8
        go_wp2_with fail
        refine HCUT.out.mono ?_
        rintro e w1 ⟨v1, v2, rfl, ho1, ho2, hb1⟩
        obtain ⟨A1, c1, rfl, _, hm1, hA1⟩ := own_form' ho1
        obtain ⟨A2, c2, rfl, hc2, hm2, hA2⟩ := own_form' ho2
        clear HCUT
        have p1 : Off _ A1 con := Off.new ho1 hK.tags (Nat.le_refl _)
        have p2 : Off _ A1 con := Off.new ho1 hK.outer (Nat.le_refl _)
        have p3 : Off _ A2 rest := Off.new ho2 hK.tags (Nat.le_refl _)
        have p4 : Off _ A2 rest := Off.new ho2 hK.outer (Nat.le_refl _)
        have hbw1 : Below w.heap.size w w1 := hbr.trans (hb1.mono hbr.size)
        have hba1 : Below w1.heap.size w1 (w1.alloc (.cells #[.int .u8 (k : Int)] 5)) := (Below.refl _ _).alloc (Nat.le_refl _) _
        have K1 := (hK.below hb1).below hba1
        have hbl : Below w.heap.size w1 (w1.alloc (.cells #[.int .u8 (k : Int)] 5)) := hba1.mono hbw1.size
        have hH1 : Has (w1.alloc (.cells #[.int .u8 (k : Int)] 5)) (w1.heap.size + 1) 1 (some ⟨w1.heap.size, 0, none⟩) 1 (bys [UInt8.ofNat k]) := by
          have := has_one w1 (.int .u8 (k : Int)) 5
          rw [show bys [UInt8.ofNat k] = [c8 (UInt8.ofNat k)] from rfl, HK8.out]
          exact this
        have hs1 := (hbw1.trans hbl).size
        have hB1 := (hA1.below hba1).upto hba1.size
        have hB2 := (hA2.below hba1).upto hba1.size
        clear hK ho1 ho2 hA1 hA2 hba1
        go_wp2_with (at_builtin; go_must (refine app8g _ rfl (.tmp 24) (.tmp 26) rfl w.heap.size _ T.length T rfl K1.tags _ _ 1 1 [UInt8.ofNat k] rfl hH1 (by omega) hs1 ?_))
        intro tv2 w2 ho2 hat2 hg2
        have K2 := K1.tag (UInt8.ofNat k) ho2 hg2 (by simpa using hat2)
        have hb12 : Below w.heap.size w1 w2 := hbl.trans (below_grown K1.tags hg2 hs1)
        have hs2 := (hbw1.trans hb12).size
        have r1 : Off tv2 A1 con := p1.next hB1 (by simpa using hat2)
        have r3 : Off tv2 A2 rest := p3.next hB2 (by simpa using hat2)
        have hC1 := (Has.grown hB1 (Nat.le_refl _) hg2 p1).upto hg2.size
        have hC2 := (Has.grown hB2 (Nat.le_refl _) hg2 p3).upto hg2.size
        clear ho2 hat2 hg2 K1 hbl hH1 hB1 hB2 p1 p3
        have hba : Below w2.heap.size w2 (w2.alloc (.cells #[.slice A1 con.length c1] 22)) := (Below.refl _ _).alloc (Nat.le_refl _) _
        have K4 := K2.below hba
        have hH4 := has_one w2 (.slice A1 con.length c1) 22
        have hD1 := (hC1.below hba).upto hba.size
        have hD2 := (hC2.below hba).upto hba.size
        have hb14 : Below w.heap.size w1 (w2.alloc (.cells #[.slice A1 con.length c1] 22)) := hb12.trans (hba.mono hs2)
        have hs4 := (hbw1.trans hb14).size
        clear K2 hC1 hC2 hb12 hba
        go_wp2_with (at_builtin; go_must (refine app22 _ rfl (.tmp 28) (.tmp 30) rfl w.heap.size _ L.length xs rfl K4.outer _ _ 1 1 [.slice A1 con.length c1] rfl hH4 (by simp [Value.oneCell']) (by omega) hs4 ?_))
        intro cv5 w5 ho5 hat5 hg5
        have K5 := K4.con A1 c1 con hD1 r1 p2 ho5 hg5 (by simpa using hat5)
        have hb5 : Below w.heap.size _ w5 := below_grown K4.outer hg5 hs4
        have hbw5 := (hbw1.trans hb14).trans hb5
        have r4 : Off cv5 A2 rest := p4.next hD2 (by simpa using hat5)
        have q := (Has.grown hD2 (Nat.le_refl _) hg5 p4).upto hg5.size
        clear ho5 hat5 hg5 K4 hH4 hD1 hD2 hb5 hb14 hb1 hbw1 p2 p4 r1
        go_wp2
        go_roundw
        case rel => exact ⟨f, T ++ [UInt8.ofNat k], rest, xs ++ [.slice A1 con.length c1], L ++ [con], A2, c2, rfl, hc2, hm2, by omega, by simp; omega, by simp; omega, hide (by have := HGG.out; rwa [if_neg (by simp)] at this), q, r3, r4, K5, hbw5⟩
        case measure => simp [sliceLen]; omega
      · have hg := HGG.out
        rw [if_pos he] at hg
        subst hg
        have heb : (err != 0) = true := by rw [bne_iff_ne]; exact he
        clear HGG he
        go_wp2_with fail
        refine HCUT.out.mono ?_
        rintro e w1 ⟨v1, v2, rfl, ho1, ho2, hb1⟩
        have hk := Kept.start w1 w.heap.size
        have hbw1 : Below w.heap.size w w1 := hbr.trans (hb1.mono hbr.size)
        clear HCUT hK
        go_wp2
        go_ret3
        exact ⟨_, _, [], rfl, hk, hbw1⟩

end Go.Proofs.Ytjannmoijoakcaa.Ber
