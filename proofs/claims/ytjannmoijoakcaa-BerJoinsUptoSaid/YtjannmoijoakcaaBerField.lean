/-
  The contracts of a field: the program's and the document's, over any content.
-/
import Derived.Test.YtjannmoijoakcaaBerLen
import Derived.Test.YtjannmoijoakcaaBerRefLen
namespace Go.Proofs.Ytjannmoijoakcaa.Ber
open Go.RowKit

/-- A field's bytes. -/
def fieldOf (tag : UInt8) (l : List UInt8) : List UInt8 := tag :: (lenOf (l.length : Int) ++ l)

theorem lenOf_le (n : Int) : (lenOf n).length ≤ 5 := by
  unfold lenOf
  split
  · simp
  · split
    · simp
    · have := wide_le n.toNat
      simp [be_length]
      omega

theorem fieldOf_length (tag : UInt8) (l : List UInt8) : (fieldOf tag l).length = 1 + (lenOf (l.length : Int)).length + l.length := by
  simp [fieldOf]
  omega

set_option maxRecDepth 100000 in
set_option maxHeartbeats 800000 in
theorem field_of (tag : UInt8) (L l : List UInt8) (k : Int) (w : World) (B : Nat) (A : Option Addr) (c : Nat) (h : Has w B 1 A l.length (bys l)) (hB : B ≤ w.heap.size) (hn : l.length ≤ 140737488351232) (hL : L.length ≤ 5)
    (HX : Hid (Value.int .u8 k = c8 tag))
    (HLN : Hid (∀ w : World, Calls Try.prog 13 #[.int .i64 (l.length : Int)] w fun e w' => ∃ v, e = .returned v ∧ w'.ownsRow w.heap.size 5 1 v L.length (bys L) ∧ Below w.heap.size w w')) :
    Calls Try.prog 15 #[.int .u8 k, .slice A l.length c] w fun e w' =>
      ∃ v, e = .returned v ∧ w'.ownsRow w.heap.size 5 1 v (1 + L.length + l.length) (bys ([tag] ++ L ++ l)) ∧ Below w.heap.size w w' := by
  obtain ⟨i0, hi, hz0, hz1, hz2⟩ := info_parts info8
  go_enter Try.func15, Try.ntmps15
  go_wp2_with fail
  refine (HLN.out _).mono ?_
  rintro e w1 ⟨v1, rfl, hown1, hb1⟩
  obtain ⟨A1, c1, rfl, _, hH1⟩ := own_form hown1
  have hs1 := hb1.size
  go_wp2_with (at_make; go_must (refine wpList_make_own _ rfl _ _ 22 rfl w1.heap.size 5 i0 _ 1 Try.underlying22 hi hz0 hz1 .i64 .i64 _ (1 + L.length + l.length) rfl rfl (by simp) (by rw [hz2]; omega) (by unfold maxLen; omega) (Nat.le_refl _) ?_))
  intro w2 hown2 hg2
  have hb2 : Below w1.heap.size w1 w2 := (Below.refl _ _).grown hg2 (Nat.le_refl _) (by simp)
  clear hg2 hown1
  have hH2 : Has (w2.alloc (.cells #[.int .u8 k] 5)) (w2.heap.size + 1) 1 (some ⟨w2.heap.size, 0, none⟩) 1 (bys [tag]) := by
    have := has_one w2 (.int .u8 k) 5
    rw [HX.out] at this ⊢
    exact this
  have hb3 := hb2.alloc hb2.size (.cells #[.int .u8 k] 5)
  have hown3 := hown2.alloc (.cells #[.int .u8 k] 5)
  have hs3 := hb3.size
  clear hown2 hb2
  go_wp2_with (at_builtin; go_must (refine app8 _ rfl (.tmp 17) (.tmp 19) rfl w1.heap.size _ 0 [] rfl hown3 _ _ 1 1 [tag] rfl hH2 (by omega) hs3 ?_))
  intro v4 w4 hown4 hb34 _
  have hb4 := hb3.trans hb34
  have hs4 := hb4.size
  have hH5 := hH1.below hb4
  clear hown3 hb3 hs3 hH2 hb34
  go_wp2_with (at_builtin; go_must (refine app8 _ rfl (.tmp 21) (.tmp 22) rfl w1.heap.size _ _ _ rfl hown4 _ _ L.length c1 L rfl hH5 (by omega) hs4 ?_))
  intro v5 w5 hown5 hb45 _
  have hb5 := hb4.trans hb45
  have hs5 := hb5.size
  have hH6 := h.below ((hb1.mono hB).trans (hb5.mono (Nat.le_trans hB hs1)))
  clear hown4 hb4 hs4 hH5 hb45
  go_wp2_with (at_builtin; go_must (refine app8 _ rfl (.tmp 24) (.tmp 25) rfl w1.heap.size _ _ _ rfl hown5 _ _ l.length c l rfl hH6 (by omega) hs5 ?_))
  intro v6 w6 hown6 hb56 _
  have hb6 := hb5.trans hb56
  clear hown5 hb5 hs5 hH6 hb56 hH1
  go_wp2
  go_ret
  refine ⟨_, rfl, own_base ?_ hs1, hb1.trans (hb6.mono hs1)⟩
  simpa using hown6

theorem field_any (tag : UInt8) (w : World) (B : Nat) (A : Option Addr) (n c : Nat) (l : List UInt8) (h : Has w B 1 A n (bys l)) (hB : B ≤ w.heap.size) (hn : n ≤ 140737488351232) :
    Calls Try.prog 15 #[c8 tag, .slice A n c] w fun e w' =>
      ∃ v, e = .returned v ∧ w'.ownsRow w.heap.size 5 1 v (fieldOf tag l).length (bys (fieldOf tag l)) ∧ Below w.heap.size w w' := by
  obtain rfl : l.length = n := by simpa [bys] using h.1
  rw [fieldOf_length]
  exact field_of tag (lenOf (l.length : Int)) l (tag.toNat : Int) w B A c h hB hn (lenOf_le _) (hide rfl) (hide (len_any _))

set_option maxRecDepth 100000 in
set_option maxHeartbeats 800000 in
theorem rfield_of (tag : UInt8) (L l : List UInt8) (k : Int) (w : World) (B : Nat) (A : Option Addr) (c : Nat) (h : Has w B 1 A l.length (bys l)) (hB : B ≤ w.heap.size) (hn : l.length ≤ 140737488351232) (hL : L.length ≤ 5)
    (HX : Hid (Value.int .u8 k = c8 tag))
    (HLN : Hid (∀ w : World, Calls Try.prog 14 #[.int .i64 (l.length : Int)] w fun e w' => ∃ v, e = .returned v ∧ w'.ownsRow w.heap.size 5 1 v L.length (bys L) ∧ Below w.heap.size w w')) :
    Calls Try.prog 16 #[.int .u8 k, .slice A l.length c] w fun e w' =>
      ∃ v, e = .returned v ∧ w'.ownsRow w.heap.size 5 1 v (1 + L.length + l.length) (bys ([tag] ++ L ++ l)) ∧ Below w.heap.size w w' := by
  have hone : (w.alloc (.cells #[.int .u8 k] 5)).ownsRow w.heap.size 5 1 (.slice (some ⟨w.heap.size, 0, none⟩) 1 1) 1 (bys [tag]) := by
    rw [HX.out]
    exact one8 w tag
  have hb0 : Below w.heap.size w (w.alloc (.cells #[.int .u8 k] 5)) := (Below.refl _ _).alloc (Nat.le_refl _) _
  go_enter Try.func16, Try.ntmps16
  go_wp2_with fail
  refine (HLN.out _).mono ?_
  rintro e w1 ⟨v1, rfl, hown1, hb1⟩
  obtain ⟨A1, c1, rfl, _, hH1⟩ := own_form hown1
  have hown2 := own_below hone hb1
  have hb2 : Below w.heap.size w w1 := hb0.trans (hb1.mono (by simp))
  have hs2 := hb2.size
  clear hone hb0 hown1
  go_wp2_with (at_builtin; go_must (refine app8 _ rfl (.tmp 7) (.tmp 10) rfl w.heap.size _ 1 [tag] rfl hown2 _ _ L.length c1 L rfl hH1 (by omega) hs2 ?_))
  intro v5 w5 hown5 hb45 _
  have hb5 := hb2.trans hb45
  have hs5 := hb5.size
  have hH6 := h.below (hb5.mono hB)
  clear hown2 hb2 hs2 hH1 hb45
  go_wp2_with (at_builtin; go_must (refine app8 _ rfl (.tmp 12) (.tmp 13) rfl w.heap.size _ _ _ rfl hown5 _ _ l.length c l rfl hH6 (by omega) hs5 ?_))
  intro v6 w6 hown6 hb56 _
  have hb6 := hb5.trans hb56
  clear hown5 hb5 hs5 hH6 hb56
  go_wp2
  go_ret
  exact ⟨_, rfl, hown6, hb6⟩

theorem rfield_any (tag : UInt8) (w : World) (B : Nat) (A : Option Addr) (n c : Nat) (l : List UInt8) (h : Has w B 1 A n (bys l)) (hB : B ≤ w.heap.size) (hn : n ≤ 140737488351232) :
    Calls Try.prog 16 #[c8 tag, .slice A n c] w fun e w' =>
      ∃ v, e = .returned v ∧ w'.ownsRow w.heap.size 5 1 v (fieldOf tag l).length (bys (fieldOf tag l)) ∧ Below w.heap.size w w' := by
  obtain rfl : l.length = n := by simpa [bys] using h.1
  rw [fieldOf_length]
  exact rfield_of tag (lenOf (l.length : Int)) l (tag.toNat : Int) w B A c h hB hn (lenOf_le _) (hide rfl) (hide (rlen_any _))

end Go.Proofs.Ytjannmoijoakcaa.Ber
