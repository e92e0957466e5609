/-
  The contracts of bytes.Clone and of ber.Take: a field taken off, each part in memory of its own.
-/
import Derived.Test.YtjannmoijoakcaaBerCut
namespace Go.Proofs.Ytjannmoijoakcaa.Ber
open Go.RowKit

set_option maxRecDepth 100000 in
set_option maxHeartbeats 400000 in
theorem clone_any (w : World) (B : Nat) (A : Option Addr) (n c : Nat) (l : List UInt8) (h : Has w B 1 A n (bys l)) (hB : B ≤ w.heap.size) (hn : n ≤ 140737488351232) :
    Calls Try.prog 33 #[.slice A n c] w fun e w' => ∃ v, e = .returned v ∧ w'.ownsRow w.heap.size 5 1 v l.length (bys l) ∧ Below w.heap.size w w' := by
  have hl : l.length = n := by simpa [bys] using h.1
  cases A with
  | none =>
    have h0 : l = [] := by
      rcases h.2 with h0 | ⟨ad, h0, _⟩
      · simpa [bys] using h0
      · cases h0
    subst h0
    simp only [List.length_nil] at hl
    subst hl
    have hs := World.ownsRow_nil w w.heap.size 5 1
    have hnil := nil8 w none 0 c
    clear h
    go_enter Try.func33, Try.ntmps33
    go_wp2
    go_ret
    exact ⟨_, rfl, hs, Below.refl _ _⟩
  | some ad =>
    subst hl
    have hb0 : Below w.heap.size w (w.alloc (.cells #[] 5)) := (Below.refl _ _).alloc (Nat.le_refl _) _
    have ho := none8 w
    have hs := hb0.size
    have hH := h.below (hb0.mono hB)
    have hnil := nil8 w (some ad) l.length c
    clear h
    go_enter Try.func33, Try.ntmps33
    go_wp2_with (at_builtin; go_must (refine app8 _ rfl (.tmp 5) (.tmp 6) rfl w.heap.size _ 0 [] rfl ho _ _ l.length c l rfl hH (by omega) hs ?_))
    intro v1 w1 hown1 hb1 _
    have hb2 := hb0.trans hb1
    clear ho hH hb0 hb1 hnil
    go_wp2
    go_ret
    exact ⟨_, rfl, by simpa using hown1, hb2⟩

set_option maxRecDepth 100000 in
set_option maxHeartbeats 800000 in
theorem take_of (w : World) (B : Nat) (A : Option Addr) (n c : Nat) (hB : B ≤ w.heap.size) (tag : Int) (con rest : List UInt8) (err : Int) (hcon : con.length ≤ 140737488351232) (hrest : rest.length ≤ 140737488351232)
    (H : Hid (Calls Try.prog 32 #[.slice A n c] w fun e w' => ∃ A1 c1 A2 c2, e = .returned (.tuple #[.int .u8 tag, .slice A1 con.length c1, .slice A2 rest.length c2, .int .i64 err]) ∧
      Has w' B 1 A1 con.length (bys con) ∧ con.length ≤ c1 ∧ c1 ≤ maxLen ∧ Has w' B 1 A2 rest.length (bys rest) ∧ rest.length ≤ c2 ∧ c2 ≤ maxLen ∧ Below w.heap.size w w'))
    (he : err = 0 ∨ ((err != 0) = true ∧ tag = 0 ∧ con = [] ∧ rest = [])) :
    Calls Try.prog 25 #[.slice A n c] w fun e w' => ∃ v1 v2, e = .returned (.tuple #[.int .u8 tag, v1, v2, .int .i64 err]) ∧
      w'.ownsRow w.heap.size 5 1 v1 con.length (bys con) ∧ w'.ownsRow w.heap.size 5 1 v2 rest.length (bys rest) ∧ Below w.heap.size w w' := by
  rcases he with rfl | ⟨he, rfl, rfl, rfl⟩
  · go_enter Try.func25, Try.ntmps25
    go_wp2_with fail
    refine H.out.mono ?_
    rintro e w1 ⟨A1, c1, A2, c2, rfl, h1, _, _, h2, _, _, hb⟩
    clear H
    have hs := hb.size
    go_wp2_with fail
    refine (clone_any w1 B A1 con.length c1 con h1 (Nat.le_trans hB hs) hcon).mono ?_
    rintro e w2 ⟨v1, rfl, ho1, hb1⟩
    have h2' := h2.below (hb1.mono (Nat.le_trans hB hs))
    have hs1 := hb1.size
    go_wp2_with fail
    refine (clone_any w2 B A2 rest.length c2 rest h2' (Nat.le_trans hB (Nat.le_trans hs hs1)) hrest).mono ?_
    rintro e w3 ⟨v2, rfl, ho2, hb2⟩
    have ho1' := own_base (own_below ho1 hb2) hs
    have ho2' := own_base ho2 (Nat.le_trans hs hs1)
    have hb3 := hb.trans ((hb1.mono hs).trans (hb2.mono (Nat.le_trans hs hs1)))
    clear ho1 ho2 hb hb1 hb2 h1 h2 h2'
    go_wp2
    exact bodyPost_ret (results4 rfl _ _ _) rfl ⟨_, _, rfl, ho1', ho2', hb3⟩
  · go_enter Try.func25, Try.ntmps25
    go_wp2_with fail
    refine H.out.mono ?_
    rintro e w1 ⟨A1, c1, A2, c2, rfl, _, _, _, _, _, _, hb⟩
    clear H
    have hn := World.ownsRow_nil w1 w.heap.size 5 1
    go_wp2
    exact bodyPost_ret (results4 rfl _ _ _) rfl ⟨_, _, rfl, hn, hn, hb⟩

theorem cutLen_err (l : List UInt8) : (cutLen l).2.2 = 0 ∨ (cutLen l).2.2 = 2 ∨ (cutLen l).2.2 = 5 := by
  cases l with
  | nil => simp [cutLen]
  | cons f r =>
    rw [cutLen]
    split
    · simp
    · split
      · simp
      · split <;> simp

theorem takeOf_err (l : List UInt8) : (takeOf l).2.2.2 = 0 ∨ (((takeOf l).2.2.2 != 0) = true ∧ ((takeOf l).1 : Int) = 0 ∧ (takeOf l).2.1 = [] ∧ (takeOf l).2.2.1 = []) := by
  cases l with
  | nil => simp [takeOf]
  | cons t r =>
    rw [takeOf]
    split
    · simp
    · split
      · simp_all
      · split <;> simp

theorem cutRest_le (l : List UInt8) : (cutRest l).length ≤ l.length := by
  unfold cutRest
  split
  · rw [List.length_drop]; omega
  · simp

theorem takeOf_le (l : List UInt8) : (takeOf l).2.1.length ≤ l.length ∧ (takeOf l).2.2.1.length ≤ l.length := by
  cases l with
  | nil => simp [takeOf]
  | cons t r =>
    have := cutRest_le r
    rw [takeOf, List.length_cons]
    split
    · simp
    · split
      · simp
      · split
        · simp
        · simp only [List.length_take, List.length_drop]
          omega

theorem take_any (w : World) (B : Nat) (A : Option Addr) (n c : Nat) (l : List UInt8) (h : Has w B 1 A n (bys l)) (hB : B ≤ w.heap.size) (hc : n ≤ c) (hm : c ≤ maxLen) (hn : n ≤ 140737488351232) :
    Calls Try.prog 25 #[.slice A n c] w fun e w' => ∃ v1 v2, e = .returned (.tuple #[.int .u8 ((takeOf l).1 : Int), v1, v2, .int .i64 (takeOf l).2.2.2]) ∧
      w'.ownsRow w.heap.size 5 1 v1 (takeOf l).2.1.length (bys (takeOf l).2.1) ∧ w'.ownsRow w.heap.size 5 1 v2 (takeOf l).2.2.1.length (bys (takeOf l).2.2.1) ∧ Below w.heap.size w w' := by
  have hl : l.length = n := by simpa [bys] using h.1
  have hle := takeOf_le l
  exact take_of w B A n c hB _ _ _ _ (by omega) (by omega) (hide (cut_any w B A n c l h hB hc hm)) (takeOf_err l)

end Go.Proofs.Ytjannmoijoakcaa.Ber
