/-
  'BerTakes': of any bytes the field is taken that the document says, or none.
-/
import Derived.Test.YtjannmoijoakcaaBerRefTake
namespace Go.Proofs.Ytjannmoijoakcaa.Ber
open Go.RowKit

/-- What a taking of a field answers. -/
def TK (f : Nat) (w : World) (A : Option Addr) (n c : Nat) (k : Int) (con rest : List UInt8) (err : Int) : Prop :=
  Calls Try.prog f #[.slice A n c] w fun e w' => ∃ A1 c1 A2 c2, e = .returned (.tuple #[.int .u8 k, .slice A1 con.length c1, .slice A2 rest.length c2, .int .i64 err]) ∧
    Has w' w'.heap.size 1 A1 con.length (bys con) ∧ Has w' w'.heap.size 1 A2 rest.length (bys rest) ∧ Below w.heap.size w w'

theorem TK.of {f : Nat} {w : World} {A : Option Addr} {n c : Nat} {k : Int} {con rest : List UInt8} {err : Int}
    (h : Calls Try.prog f #[.slice A n c] w fun e w' => ∃ v1 v2, e = .returned (.tuple #[.int .u8 k, v1, v2, .int .i64 err]) ∧
      w'.ownsRow w.heap.size 5 1 v1 con.length (bys con) ∧ w'.ownsRow w.heap.size 5 1 v2 rest.length (bys rest) ∧ Below w.heap.size w w') : TK f w A n c k con rest err := by
  unfold TK
  refine h.mono ?_
  rintro e w' ⟨v1, v2, rfl, h1, h2, hb⟩
  obtain ⟨A1, c1, rfl, _, hH1⟩ := own_form h1
  obtain ⟨A2, c2, rfl, _, hH2⟩ := own_form h2
  exact ⟨A1, c1, A2, c2, rfl, hH1, hH2, hb⟩

theorem known_has (w : World) : Has (w.alloc (.cells #[.int .u8 48, .int .u8 0] 5)) (w.heap.size + 1) 1 (some ⟨w.heap.size, 0, none⟩) 2 (bys [48, 0]) :=
  (Has.own (own_lit w #[.int .u8 48, .int .u8 0] 5 2 (by unfold maxLen; omega) rfl)).upto (by simp)

set_option maxRecDepth 100000 in
set_option maxHeartbeats 1600000 in
theorem takes_of (w : World) (A : Option Addr) (n c : Nat) (k : Int) (con rest : List UInt8) (err : Int)
    (H1 : Hid (TK 25 w A n c k con rest err))
    (H2 : Hid (∀ W, Below w.heap.size w W → TK 26 W A n c k con rest err))
    (H3 : Hid (∀ W : World, TK 25 (W.alloc (.cells #[.int .u8 48, .int .u8 0] 5)) (some ⟨W.heap.size, 0, none⟩) 2 2 48 [] [] 0)) :
    Calls Try.prog 8 #[.slice A n c] w fun e w' => e = .returned (.bool true) ∧ Below w.heap.size w w' := by
  go_enter Try.func8, Try.ntmps8
  go_wp2_with fail
  have h1 := H1.out
  unfold TK at h1
  refine h1.mono ?_
  rintro e w1 ⟨A1, c1, A2, c2, rfl, hH1, hH2, hb1⟩
  clear h1 H1
  go_wp2_with fail
  have h2 := H2.out w1 hb1
  unfold TK at h2
  refine h2.mono ?_
  rintro e w2 ⟨B1, d1, B2, d2, rfl, hG1, hG2, hb2⟩
  clear h2 H2
  go_wp2_with fail
  have h3 := H3.out w2
  unfold TK at h3
  refine h3.mono ?_
  rintro e w3 ⟨C1, e1, C2, e2, rfl, _, _, hb3⟩
  clear h3 H3
  have hb23 : Below w2.heap.size w2 w3 := ((Below.refl _ _).alloc (Nat.le_refl _) _).trans (hb3.mono (by simp))
  have hb13 : Below w1.heap.size w1 w3 := hb2.trans (hb23.mono hb2.size)
  have hb : Below w.heap.size w w3 := hb1.trans (hb13.mono hb1.size)
  have t1 := txt8 w3 c1 (hH1.below hb13)
  have t2 := txt8 w3 c2 (hH2.below hb13)
  have t3 := txt8 w3 d1 (hG1.below hb23)
  have t4 := txt8 w3 d2 (hG2.below hb23)
  clear hH1 hH2 hG1 hG2 hb23 hb13 hb3 hb1 hb2
  go_wp2
  go_ret
  exact ⟨rfl, hb⟩

theorem takes_walk (w : World) (A : Option Addr) (n c : Nat) (l : List UInt8) (h : Has w w.heap.size 1 A n (bys l)) (hc : n ≤ c) (hm : c ≤ maxLen) (hn : n ≤ 140737488351232) :
    Calls Try.prog 8 #[.slice A n c] w fun e w' => e = .returned (.bool true) ∧ Below w.heap.size w w' :=
  takes_of w A n c ((takeOf l).1 : Int) (takeOf l).2.1 (takeOf l).2.2.1 (takeOf l).2.2.2 (hide (TK.of (take_any w w.heap.size A n c l h (Nat.le_refl _) hc hm hn)))
    (hide fun W hW => TK.of (rtake_any W A n c l ((h.below hW).upto hW.size) hc hm hn))
    (hide fun W => TK.of (take_any _ _ _ 2 2 [48, 0] (known_has W) (by simp) (Nat.le_refl _) (by unfold maxLen; omega) (by omega)))

end Go.Proofs.Ytjannmoijoakcaa.Ber
