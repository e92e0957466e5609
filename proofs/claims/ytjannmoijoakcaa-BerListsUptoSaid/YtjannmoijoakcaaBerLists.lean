/-
  'BerLists': any bytes are the fields that the document says, or none.
-/
import Derived.Test.YtjannmoijoakcaaBerSame
namespace Go.Proofs.Ytjannmoijoakcaa.Ber
open Go.RowKit

theorem known4_has (w : World) : Has (w.alloc (.cells #[.int .u8 4, .int .u8 0] 5)) (w.heap.size + 1) 1 (some ⟨w.heap.size, 0, none⟩) 2 (bys [4, 0]) :=
  (Has.own (own_lit w #[.int .u8 4, .int .u8 0] 5 2 (by unfold maxLen; omega) rfl)).upto (by simp)

set_option maxRecDepth 100000 in
set_option maxHeartbeats 1600000 in
theorem lists_of (w : World) (A : Option Addr) (n c : Nat) (R : List UInt8 × List (List UInt8) × Int) (R3 : List UInt8 × List (List UInt8))
    (H1 : Hid (Calls Try.prog 27 #[.slice A n c] w (LSp w R)))
    (H2 : Hid (∀ W, Below w.heap.size w W → Calls Try.prog 28 #[.slice A n c] W (LSp W R)))
    (H3 : Hid (∀ W : World, Calls Try.prog 27 #[.slice (some ⟨W.heap.size, 0, none⟩) 2 2] (W.alloc (.cells #[.int .u8 4, .int .u8 0] 5)) (LSp (W.alloc (.cells #[.int .u8 4, .int .u8 0] 5)) (R3.1, R3.2, 0)))) :
    Calls Try.prog 11 #[.slice A n c] w fun e w' => e = .returned (.bool true) ∧ Below w.heap.size w w' := by
  obtain ⟨T, L, err⟩ := R
  go_enter Try.func11, Try.ntmps11
  go_wp2_with fail
  refine H1.out.mono ?_
  rintro e w1 ⟨tv, cv, xs, rfl, K1, hb1⟩
  obtain ⟨A1, c1, B1, d1, rfl, rfl, p1, p2, p3, p4, p5⟩ := K1.reads
  clear H1 K1
  go_wp2_with fail
  refine (H2.out w1 hb1).mono ?_
  rintro e w2 ⟨tv, cv, ys, rfl, K2, hb2⟩
  obtain ⟨A2, c2, B2, d2, rfl, rfl, q1, q2, q3, q4, q5⟩ := K2.reads
  clear H2 K2
  go_wp2_with fail
  refine (H3.out w2).mono ?_
  rintro e w3 ⟨tv, cv, zs, rfl, K3, hb3⟩
  obtain ⟨A3, c3, B3, d3, rfl, rfl, _, _, _, _, _⟩ := K3.reads
  clear H3 K3
  have hb23 : Below w2.heap.size w2 w3 := ((Below.refl _ _).alloc (Nat.le_refl _) _).trans (hb3.mono (by simp))
  have hb13 : Below w1.heap.size w1 w3 := hb2.trans (hb23.mono hb2.size)
  have hb : Below w.heap.size w w3 := hb1.trans (hb13.mono hb1.size)
  have t1 := txt8 w3 c1 (p1.below hb13)
  have t2 := txt8 w3 c2 (q1.below hb23)
  have hS := same_any w3 w3.heap.size B1 B2 L.length d1 d2 xs ys L ((p2.below hb13).upto hb13.size) ((q2.below hb23).upto hb23.size) p4 q4 p5 q5 rfl (p3.below hb13) (q3.below hb23)
  have HS := hide hS
  clear hS p1 p2 p3 p4 p5 q1 q2 q3 q4 q5 hb23 hb13 hb3 hb1 hb2
  go_wp2_with fail
  refine HS.out.mono ?_
  rintro e w4 ⟨rfl, hb4⟩
  have hbz : Below w.heap.size w w4 := hb.trans (hb4.mono hb.size)
  clear HS
  go_wp2
  go_ret
  exact ⟨rfl, hbz⟩

theorem lists_walk (w : World) (A : Option Addr) (n c : Nat) (l : List UInt8) (h : Has w w.heap.size 1 A n (bys l)) (hc : n ≤ c) (hm : c ≤ maxLen) (hn : n ≤ 1048576) :
    Calls Try.prog 11 #[.slice A n c] w fun e w' => e = .returned (.bool true) ∧ Below w.heap.size w w' := by
  obtain rfl : l.length = n := by simpa [bys] using h.1
  refine lists_of w A l.length c (listGo l.length [] [] l) ([4], [[]]) (hide (list_of w A l.length c l _ h hc hm (Nat.le_refl _) hn (hide rfl)))
    (hide fun W hW => rlist_of W A l.length c l _ ((h.below hW).upto hW.size) hc hm (Nat.le_refl _) hn (hide rfl)) (hide fun W => ?_)
  have hk := known4_has W
  exact list_of _ _ 2 2 [4, 0] _ (hk.upto (by simp)) (by simp) (by unfold maxLen; omega) (by simp) (by omega) (hide (by decide))

end Go.Proofs.Ytjannmoijoakcaa.Ber
