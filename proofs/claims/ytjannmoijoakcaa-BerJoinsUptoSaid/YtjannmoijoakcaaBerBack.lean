/-
  'BerBack': what was laid into a field is taken out as it was, and what stands behind it is left. 'BerCuts': a field that is cut off anywhere lacks something.
-/
import Derived.Test.YtjannmoijoakcaaBerBackMath
import Derived.Test.YtjannmoijoakcaaBerTakes
namespace Go.Proofs.Ytjannmoijoakcaa.Ber
open Go.RowKit

/-- What laying a field answers. -/
def FD (w : World) (k : Int) (A : Option Addr) (n c : Nat) (F : List UInt8) : Prop :=
  Calls Try.prog 15 #[.int .u8 k, .slice A n c] w fun e w' => ∃ A1 c1, e = .returned (.slice A1 F.length c1) ∧ F.length ≤ c1 ∧ c1 ≤ maxLen ∧ Has w' w'.heap.size 1 A1 F.length (bys F) ∧ Below w.heap.size w w'

theorem own_form' {w : World} {base : Nat} {e : TypeId} {v : Value} {n : Nat} {xs : List Value} (h : w.ownsRow base e 1 v n xs) : ∃ A c, v = .slice A n c ∧ n ≤ c ∧ c ≤ maxLen ∧ Has w w.heap.size 1 A n xs := by
  rcases h.2 with ⟨rfl, rfl⟩ | ⟨g, cap, cur, rfl, _, _, hnc, hm, _⟩
  · exact ⟨none, 0, rfl, Nat.le_refl _, Nat.zero_le _, Has.own h⟩
  · exact ⟨_, cap, rfl, hnc, hm, Has.own h⟩

theorem FD.of (w : World) (tag : UInt8) (A : Option Addr) (n c : Nat) (l : List UInt8) (h : Has w w.heap.size 1 A n (bys l)) (hn : n ≤ 140737488351232) : FD w (tag.toNat : Int) A n c (fieldOf tag l) := by
  unfold FD
  refine (field_any tag w w.heap.size A n c l h (Nat.le_refl _) hn).mono ?_
  rintro e w' ⟨v, rfl, ho, hb⟩
  obtain ⟨A1, c1, rfl, h1, h2, h3⟩ := own_form' ho
  exact ⟨A1, c1, rfl, h1, h2, h3, hb⟩

set_option maxRecDepth 100000 in
set_option maxHeartbeats 1600000 in
theorem back_of (k : Int) (many : Bool) (w : World) (A B : Option Addr) (n c m d : Nat) (l b F con rest : List UInt8) (tk : Int) (err : Int) (hA : Has w w.heap.size 1 A n (bys l)) (hB : Has w w.heap.size 1 B m (bys b))
    (hF : F.length ≤ 1048600) (hm : m ≤ 1048576)
    (H1 : Hid (FD w k A n c F))
    (H2 : Hid (∀ (W : World) (D : Option Addr) (e : Nat), Has W W.heap.size 1 D (F.length + m) (bys (F ++ b)) → F.length + m ≤ e → e ≤ maxLen → TK 25 W D (F.length + m) e tk con rest err))
    (hk : (bits .and .u8 k 31 == 31) = many) (hmany : (many = true ∧ err = 2 ∧ con = [] ∧ rest = []) ∨ (many = false ∧ err = 0 ∧ con = l ∧ rest = b ∧ tk = k)) :
    Calls Try.prog 9 #[.int .u8 k, .slice A n c, .slice B m d] w fun e w' => e = .returned (.bool true) ∧ Below w.heap.size w w' := by
  go_enter Try.func9, Try.ntmps9
  go_wp2_with fail
  have h1 := H1.out
  unfold FD at h1
  refine h1.mono ?_
  rintro e w1 ⟨A1, c1, rfl, hc1, hm1, hH1, hb1⟩
  clear h1 H1
  have hs1 := hb1.size
  have hbl : Below w1.heap.size w1 (w1.alloc (.cells #[] 5)) := (Below.refl _ _).alloc (Nat.le_refl _) _
  have ho := none8 w1
  have hsl := hbl.size
  have hH2 := hH1.below hbl
  go_wp2_with (at_builtin; go_must (refine app8 _ rfl (.tmp 16) (.tmp 17) rfl w1.heap.size _ 0 [] rfl ho _ _ F.length c1 F rfl hH2 (by omega) hsl ?_))
  intro v2 w2 ho2 hb2 _
  have hb12 := hbl.trans hb2
  have hs2 := hb12.size
  have hbw2 : Below w.heap.size w w2 := hb1.trans (hb12.mono hs1)
  have hH3 := hB.below hbw2
  clear ho hbl hsl hH2 hb2 hH1
  try simp only [Nat.zero_add, List.nil_append] at ho2
  go_wp2_with (at_builtin; go_must (refine app8 _ rfl (.tmp 18) (.tmp 19) rfl w1.heap.size _ _ _ rfl ho2 _ _ m d b rfl hH3 (by omega) hs2 ?_))
  intro v3 w3 ho3 hb3 _
  have hb13 := hb12.trans hb3
  have hbw3 : Below w.heap.size w w3 := hb1.trans (hb13.mono hs1)
  obtain ⟨D, e, rfl, hde, hdm, hD⟩ := own_form' ho3
  clear ho2 ho3 hb3 hb12 hb13 hH3 hbw2 hs2 hb1 hs1
  go_wp2_with fail
  have h2 := H2.out w3 D e hD hde hdm
  unfold TK at h2
  refine h2.mono ?_
  rintro e w4 ⟨T1, t1, T2, t2, rfl, hT1, hT2, hb4⟩
  clear h2 H2 hD
  have hb : Below w.heap.size w w4 := hbw3.trans (hb4.mono hbw3.size)
  have x1 := txt8 w4 t1 hT1
  have x2 := txt8 w4 t2 hT2
  have x3 := txt8 w4 c (hA.below hb)
  have x4 := txt8 w4 d (hB.below hb)
  clear hT1 hT2 hA hB hb4 hbw3
  rcases hmany with ⟨rfl, rfl, rfl, rfl⟩ | ⟨rfl, rfl, rfl, rfl, rfl⟩
  · go_wp2
    go_ret
    exact ⟨rfl, hb⟩
  · go_wp2
    go_ret
    exact ⟨rfl, hb⟩

theorem back_walk (tag : UInt8) (w : World) (A B : Option Addr) (n c m d : Nat) (l b : List UInt8) (hA : Has w w.heap.size 1 A n (bys l)) (hB : Has w w.heap.size 1 B m (bys b)) (hn : n ≤ 1048576) (hm : m ≤ 1048576) :
    Calls Try.prog 9 #[.int .u8 (tag.toNat : Int), .slice A n c, .slice B m d] w fun e w' => e = .returned (.bool true) ∧ Below w.heap.size w w' := by
  have hl : l.length = n := by simpa [bys] using hA.1
  have hb : b.length = m := by simpa [bys] using hB.1
  have hF := fieldOf_length tag l
  have hL := lenOf_le (l.length : Int)
  have hT := takeOf_field tag l b (by omega)
  have ha := and_31 tag.toNat tag.toNat_lt
  refine back_of (tag.toNat : Int) (tag.toNat % 32 == 31) w A B n c m d l b (fieldOf tag l) (takeOf (fieldOf tag l ++ b)).2.1 (takeOf (fieldOf tag l ++ b)).2.2.1 ((takeOf (fieldOf tag l ++ b)).1 : Int) (takeOf (fieldOf tag l ++ b)).2.2.2 hA hB (by omega) hm
    (hide (FD.of w tag A n c l hA (by omega))) (hide fun W D e hD he hem => TK.of (take_any W W.heap.size D _ e _ hD (Nat.le_refl _) he hem (by omega))) ?_ ?_
  · rw [ha]
    by_cases h : tag.toNat % 32 = 31
    · rw [h]; rfl
    · rw [beq_eq_false_iff_ne.2 h, beq_eq_false_iff_ne]
      omega
  · by_cases h : tag.toNat % 32 = 31
    · rw [if_pos h] at hT
      rw [hT]
      exact .inl ⟨by simpa using h, rfl, rfl, rfl⟩
    · rw [if_neg h] at hT
      rw [hT]
      exact .inr ⟨by simpa using h, rfl, rfl, rfl, rfl⟩

set_option maxRecDepth 100000 in
set_option maxHeartbeats 1600000 in
theorem cuts_of (k k' : Int) (many : Bool) (at_ : Nat) (w : World) (A : Option Addr) (n c : Nat) (F : List UInt8) (hF2 : 2 ≤ F.length) (hF : F.length ≤ 1048600) (hat : at_ < 18446744073709551616)
    (hk : (bits .and .u8 k 31 == 31) = many) (hk' : (many = true ∧ k' = 48) ∨ (many = false ∧ k' = k))
    (H1 : Hid (FD w k' A n c F))
    (H2 : Hid (∀ (W : World) (D : Option Addr) (e : Nat), Has W W.heap.size 1 D (at_ % F.length) (bys (F.take (at_ % F.length))) → at_ % F.length ≤ e → e ≤ maxLen → TK 25 W D (at_ % F.length) e 0 [] [] 5)) :
    Calls Try.prog 10 #[.int .u8 k, .slice A n c, .int .u64 at_] w fun e w' => e = .returned (.bool true) ∧ Below w.heap.size w w' := by
  rcases hk' with ⟨rfl, rfl⟩ | ⟨rfl, rfl⟩
  all_goals
    go_enter Try.func10, Try.ntmps10
    go_wp2_with fail
    have h1 := H1.out
    unfold FD at h1
    refine h1.mono ?_
    rintro e w1 ⟨A1, c1, rfl, hc1, hm1, hH1, hb1⟩
    clear h1 H1
    unfold maxLen at hm1
    have hi : at_ % F.length < F.length := Nat.mod_lt _ (by omega)
    have q2 : (at_ : Int) % (F.length : Int) = ((at_ % F.length : Nat) : Int) := by simp
    have q0 : 0 ≤ (at_ : Int) % (F.length : Int) := by rw [q2]; omega
    have q1 : (at_ : Int) % (F.length : Int) ≤ (c1 : Int) := by rw [q2]; omega
    clear q2
    have hT := hH1.first (k := at_ % F.length) (by omega)
    rw [Nat.mul_one, bys_take] at hT
    have HT := hide hT
    clear hT hH1
    go_wp2_with fail
    have h2 := H2.out w1 A1 c1 HT.out (by omega) (by unfold maxLen; omega)
    unfold TK at h2
    refine h2.mono ?_
    rintro e w4 ⟨T1, t1, T2, t2, rfl, hT1, hT2, hb4⟩
    clear h2 H2 HT hT1 hT2
    have hb : Below w.heap.size w w4 := hb1.trans (hb4.mono hb1.size)
    go_wp2
    go_ret
    exact ⟨rfl, hb⟩

theorem cuts_walk (tag : UInt8) (at_ : Int) (hat : (Lit.int .u64 at_).wf = true) (w : World) (A : Option Addr) (n c : Nat) (l : List UInt8) (hA : Has w w.heap.size 1 A n (bys l)) (hn : n ≤ 1048576) :
    Calls Try.prog 10 #[.int .u8 (tag.toNat : Int), .slice A n c, .int .u64 at_] w fun e w' => e = .returned (.bool true) ∧ Below w.heap.size w w' := by
  have hx : 0 ≤ at_ ∧ at_ ≤ 18446744073709551615 := by simpa [Lit.wf, IntKind.min, IntKind.max, IntKind.signed, IntKind.bits] using hat
  obtain ⟨a, rfl⟩ := Int.eq_ofNat_of_zero_le hx.1
  have hl : l.length = n := by simpa [bys] using hA.1
  have hL := lenOf_le (l.length : Int)
  have hL1 : 1 ≤ (lenOf (l.length : Int)).length := by
    unfold lenOf
    rw [if_neg (by omega)]
    split <;> simp
  have ha := and_31 tag.toNat tag.toNat_lt
  have go_ : ∀ t' : UInt8, t'.toNat % 32 ≠ 31 → ((tag.toNat % 32 == 31) = true ∧ (t'.toNat : Int) = 48 ∨ (tag.toNat % 32 == 31) = false ∧ (t'.toNat : Int) = (tag.toNat : Int)) →
      Calls Try.prog 10 #[.int .u8 (tag.toNat : Int), .slice A n c, .int .u64 (a : Int)] w fun e w' => e = .returned (.bool true) ∧ Below w.heap.size w w' := by
    intro t' ht hor
    have hF := fieldOf_length t' l
    refine cuts_of (tag.toNat : Int) (t'.toNat : Int) (tag.toNat % 32 == 31) a w A n c (fieldOf t' l) (by omega) (by omega) (by omega) ?_ hor (hide (FD.of w t' A n c l hA (by omega))) (hide fun W D e hD he hem => ?_)
    · rw [ha]
      by_cases h : tag.toNat % 32 = 31
      · rw [h]; rfl
      · rw [beq_eq_false_iff_ne.2 h, beq_eq_false_iff_ne]
        omega
    · have hi : a % (fieldOf t' l).length < (fieldOf t' l).length := Nat.mod_lt _ (by omega)
      have := take_any W W.heap.size D _ e _ hD (Nat.le_refl _) he hem (by omega)
      rw [takeOf_part t' l (by omega) ht _ hi] at this
      exact TK.of this
  by_cases h : tag.toNat % 32 = 31
  · exact go_ 48 (by decide) (.inl ⟨by simpa using h, rfl⟩)
  · exact go_ tag h (.inr ⟨by simpa using h, rfl⟩)

end Go.Proofs.Ytjannmoijoakcaa.Ber
