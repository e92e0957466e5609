/-
  The contracts of the two Lists, and of the comparing of two lists of contents.
-/
import Derived.Test.YtjannmoijoakcaaBerListMath
namespace Go.Proofs.Ytjannmoijoakcaa.Ber
open Go.RowKit

/-- What a List answers. -/
def LSp (w : World) (R : List UInt8 × List (List UInt8) × Int) (e : Ending) (w' : World) : Prop :=
  ∃ tv cv xs, e = .returned (.tuple #[tv, cv, .int .i64 R.2.2]) ∧ Kept w' w.heap.size tv cv R.1 xs R.2.1 ∧ Below w.heap.size w w'

def sliceLen : Value → Nat
  | .slice _ m _ => m
  | _ => 0

theorem kept_size {w : World} {base : Nat} {tv cv : Value} {T : List UInt8} {xs : List Value} {L : List (List UInt8)} (_h : Kept w base tv cv T xs L) : xs.length = L.length := by simpa using _h.outer.1

set_option maxRecDepth 100000 in
set_option maxHeartbeats 3200000 in
theorem list_of (w : World) (A : Option Addr) (n c : Nat) (l : List UInt8) (R : List UInt8 × List (List UInt8) × Int) (h : Has w w.heap.size 1 A l.length (bys l)) (hc : l.length ≤ c) (hm : c ≤ maxLen) (hn : l.length ≤ n) (hn8 : n ≤ 16777216)
    (HR : Hid (listGo n [] [] l = R)) :
    Calls Try.prog 27 #[.slice A l.length c] w (LSp w R) := by
  have hk0 := Kept.start w w.heap.size
  have hb0 : Below w.heap.size w w := Below.refl _ _
  go_enter Try.func27, Try.ntmps27
  go_wp2
  go_loopw [5, 6, 7] (fun tv cv rv wr => ∃ (f : Nat) (T rem : List UInt8) (xs : List Value) (L : List (List UInt8)) (Ar : Option Addr) (cr : Nat),
      rv = .slice Ar rem.length cr ∧ rem.length ≤ cr ∧ cr ≤ maxLen ∧ rem.length ≤ f ∧ T.length + rem.length ≤ n ∧ L.length + rem.length ≤ n ∧ Hid (listGo f T L rem = R) ∧ Has wr w.heap.size 1 Ar rem.length (bys rem) ∧ Kept wr w.heap.size tv cv T xs L ∧ Below w.heap.size w wr)
    (fun _ _ rv _ => sliceLen rv)
  case atStart => exact ⟨n, [], l, [], [], A, c, rfl, hc, hm, hn, by simpa using hn, by simpa using hn, HR, h, hk0, hb0⟩
  case round =>
    obtain ⟨f, T, rem, xs, L, Ar, cr, rfl, hcr, hmr, hf, hT, hL, HG, hH, hK, hbr⟩ := hrel
    clear hk0 hb0 HR h hc hm hn
    by_cases hr : rem = []
    · subst hr
      have hg := HG.out
      rw [listGo_nil] at hg
      subst hg
      clear HG
      go_wp2
      go_ret3
      exact ⟨_, _, xs, rfl, hK, hbr⟩
    · have hless := takeOf_less rem hr
      have hle := takeOf_le rem
      have hpos : 0 < rem.length := List.length_pos_iff.2 hr
      obtain ⟨f, rfl⟩ : ∃ f', f = f' + 1 := ⟨f - 1, by omega⟩
      have hg := HG.out
      rw [listGo, if_neg hr] at hg
      have hcut := cut_any wr w.heap.size Ar rem.length cr rem hH hbr.size hcr hmr
      obtain ⟨k, con, rest, err, ht⟩ : ∃ k con rest err, takeOf rem = (k, con, rest, err) := ⟨_, _, _, _, rfl⟩
      rw [ht] at hcut hg hless hle
      simp only at hcut hg hless hle
      have HCUT := hide hcut
      have HGG := hide hg
      clear hcut hg HG ht hr
      by_cases he : err = 0
      · subst he
        have hk8 := c8_lit k hless.2
        have HK8 := hide hk8
        clear hk8
        go_wp2_with fail
        refine HCUT.out.mono ?_
        rintro e w1 ⟨A1, c1, A2, c2, rfl, q1, q2, q3, q4, q5, q6, hb1⟩
        clear HCUT
        have hbw1 : Below w.heap.size w w1 := hbr.trans (hb1.mono hbr.size)
        have K1 := (hK.below hb1).below ((Below.refl w1.heap.size w1).alloc (Nat.le_refl _) (.cells #[.int .u8 (k : Int)] 5))
        have hbl : Below w.heap.size w1 (w1.alloc (.cells #[.int .u8 (k : Int)] 5)) := (Below.refl _ _).alloc hbw1.size _
        have hH1 : Has (w1.alloc (.cells #[.int .u8 (k : Int)] 5)) (w1.heap.size + 1) 1 (some ⟨w1.heap.size, 0, none⟩) 1 (bys [UInt8.ofNat k]) := by
          have := has_one w1 (.int .u8 (k : Int)) 5
          rw [show bys [UInt8.ofNat k] = [c8 (UInt8.ofNat k)] from rfl, HK8.out]
          exact this
        have hs1 := (hbw1.trans hbl).size
        clear hK
        go_wp2_with (at_builtin; go_must (refine app8g _ rfl (.tmp 26) (.tmp 28) rfl w.heap.size _ T.length T rfl K1.tags _ _ 1 1 [UInt8.ofNat k] rfl hH1 (by omega) hs1 ?_))
        intro tv2 w2 ho2 hat2 hg2
        have K2 := K1.tag (UInt8.ofNat k) ho2 hg2 (by simpa using hat2)
        have hb12 : Below w.heap.size w1 w2 := hbl.trans (below_grown K1.tags hg2 hs1)
        have hs2 := (hbw1.trans hb12).size
        have hcl := clone_any w2 w.heap.size A1 con.length c1 con (q1.below hb12) hs2 (by omega)
        have HCL := hide hcl
        have q4' := q4.below hb12
        clear ho2 hat2 hg2 K1 hbl hH1 q1 q4 hcl
        go_wp2_with fail
        refine HCL.out.mono ?_
        rintro e w3 ⟨v3, rfl, ho3, hb3⟩
        obtain ⟨A3, c3, rfl, _, hH3⟩ := own_form ho3
        clear HCL
        have o1 : Off tv2 A3 con := Off.new ho3 K2.tags (Nat.le_refl _)
        have o2 : Off _ A3 con := Off.new ho3 K2.outer (Nat.le_refl _)
        have hba : Below w3.heap.size w3 (w3.alloc (.cells #[.slice A3 con.length c3] 22)) := (Below.refl _ _).alloc (Nat.le_refl _) _
        have K4 := (K2.below hb3).below hba
        have hH4 := has_one w3 (.slice A3 con.length c3) 22
        have hH5 := (hH3.below hba).upto hba.size
        have hb13 : Below w.heap.size w1 w3 := hb12.trans (hb3.mono hs2)
        have hb14 : Below w.heap.size w1 (w3.alloc (.cells #[.slice A3 con.length c3] 22)) := hb13.trans (hba.mono (Nat.le_trans hs2 hb3.size))
        have hs4 := (hbw1.trans hb14).size
        have q4'' := (q4'.below (hb3.mono hs2)).below (hba.mono (Nat.le_trans hs2 hb3.size))
        clear K2 ho3 hH3 q4' hb12 hb13
        go_wp2_with (at_builtin; go_must (refine app22 _ rfl (.tmp 30) (.tmp 33) rfl w.heap.size _ L.length xs rfl K4.outer _ _ 1 1 [.slice A3 con.length c3] rfl hH4 (by simp [Value.oneCell']) (by omega) hs4 ?_))
        intro cv5 w5 ho5 hat5 hg5
        have K5 := K4.con A3 c3 con hH5 o1 o2 ho5 hg5 (by simpa using hat5)
        have hb5 : Below w.heap.size _ w5 := below_grown K4.outer hg5 hs4
        have hbw5 := (hbw1.trans hb14).trans hb5
        have q := q4''.below hb5
        clear ho5 hat5 hg5 K4 hH4 hH5 hb5 q4'' hb14 hba hb3 hb1 hbw1
        go_wp2
        go_roundw
        case rel => exact ⟨f, T ++ [UInt8.ofNat k], rest, xs ++ [.slice A3 con.length c3], L ++ [con], A2, c2, rfl, q5, q6, by omega, by simp; omega, by simp; omega, hide (by have := HGG.out; rwa [if_neg (by simp)] at this), q, K5, hbw5⟩
        case measure => simp [sliceLen]; omega
      · have hg := HGG.out
        rw [if_pos he] at hg
        subst hg
        have heb : (err != 0) = true := by rw [bne_iff_ne]; exact he
        clear HGG he
        go_wp2_with fail
        refine HCUT.out.mono ?_
        rintro e w1 ⟨A1, c1, A2, c2, rfl, q1, q2, q3, q4, q5, q6, hb1⟩
        have hk := Kept.start w1 w.heap.size
        have hbw1 : Below w.heap.size w w1 := hbr.trans (hb1.mono hbr.size)
        clear HCUT hK
        go_wp2
        go_ret3
        exact ⟨_, _, [], rfl, hk, hbw1⟩

end Go.Proofs.Ytjannmoijoakcaa.Ber
