/-
  The comparing of two lists of contents that are alike.
-/
import Derived.Test.YtjannmoijoakcaaBerRefList
namespace Go.Proofs.Ytjannmoijoakcaa.Ber
open Go.RowKit

/-- Each element of the list of slices reads as its content. -/
def Els (w : World) (B : Nat) (xs : List Value) (L : List (List UInt8)) : Prop :=
  ∀ (i : Nat) (l : List UInt8), L[i]? = some l → ∃ A c, xs[i]? = some (Value.slice A l.length c) ∧ Has w B 1 A l.length (bys l)

set_option maxRecDepth 100000 in
set_option maxHeartbeats 1600000 in
theorem same_some (w : World) (B g o g' o' n ca cb : Nat) (xs ys : List Value) (L : List (List UInt8)) (hca : n ≤ ca) (hcb : n ≤ cb) (hma : ca ≤ maxLen) (_hmb : cb ≤ maxLen)
    (HA : Hid (∀ j u, xs[j]? = some u → w.cell? ⟨g, o + j, none⟩ = some u)) (HB : Hid (∀ j u, ys[j]? = some u → w.cell? ⟨g', o' + j, none⟩ = some u))
    (hn : L.length = n) (EA : Hid (Els w B xs L)) (EB : Hid (Els w B ys L)) :
    Calls Try.prog 29 #[.slice (some ⟨g, o, none⟩) n ca, .slice (some ⟨g', o', none⟩) n cb] w fun e w' => e = .returned (.bool true) ∧ Below w.heap.size w w' := by
  unfold maxLen at hma
  have HN := hide hn
  clear hn
  go_enter Try.func29, Try.ntmps29
  go_wp2
  go_loopw [13] (fun i wr => ∃ k q : Nat, k ≤ n ∧ i = .int .i64 k ∧ wr = w.drewN q) (fun i _ => n - (intOf i).toNat)
  case atStart => exact ⟨0, 0, Nat.zero_le _, rfl, rfl⟩
  case round =>
    obtain ⟨k, q, hk, rfl, rfl⟩ := hrel
    by_cases hlt : k < n
    · have hl : L[k]? = some (L[k]'(by rw [HN.out]; exact hlt)) := List.getElem?_eq_getElem _
      obtain ⟨l, hl'⟩ : ∃ l, l = L[k]'(by rw [HN.out]; exact hlt) := ⟨_, rfl⟩
      rw [← hl'] at hl
      obtain ⟨A1, c1, e1, h1⟩ := EA.out k l hl
      obtain ⟨A2, c2, e2, h2⟩ := EB.out k l hl
      have q1 := HA.out k _ e1
      have q2 := HB.out k _ e2
      have t1 := fun z : Nat => txt8 (w.drewN z) c1 (h1.drewN z)
      have t2 := fun z : Nat => txt8 (w.drewN z) c2 (h2.drewN z)
      have hki : (k : Int) < (n : Int) := by omega
      have hkc : (k : Int) < (ca : Int) := by omega
      clear hl hl' e1 e2 h1 h2
      go_wp2_with fail
      go_quiet (fail)
      go_wp2_with fail
      go_roundw
      case rel => exact ⟨k + 1, _, by omega, by go_num, rfl⟩
      case measure => simp [intOf]; omega
    · obtain rfl : k = n := by omega
      go_wp2
      go_ret
      exact ⟨rfl, Below.drewN (Below.refl _ _) _⟩

set_option maxRecDepth 100000 in
theorem same_nil (w : World) (Aa Ab : Option Addr) (ca cb : Nat) :
    Calls Try.prog 29 #[.slice Aa 0 ca, .slice Ab 0 cb] w fun e w' => e = .returned (.bool true) ∧ Below w.heap.size w w' := by
  go_enter Try.func29, Try.ntmps29
  go_wp2
  refine wp_loop_rounds 1 ?_
  rw [rounds_succ]
  go_wp2
  go_ret
  exact ⟨rfl, Below.refl _ _⟩

theorem same_any (w : World) (B : Nat) (Aa Ab : Option Addr) (n ca cb : Nat) (xs ys : List Value) (L : List (List UInt8)) (hA : Has w B 1 Aa n xs) (hB : Has w B 1 Ab n ys) (hca : n ≤ ca) (hcb : n ≤ cb) (hma : ca ≤ maxLen) (hmb : cb ≤ maxLen)
    (hn : L.length = n) (eA : Els w B xs L) (eB : Els w B ys L) :
    Calls Try.prog 29 #[.slice Aa n ca, .slice Ab n cb] w fun e w' => e = .returned (.bool true) ∧ Below w.heap.size w w' := by
  rcases Nat.eq_zero_or_pos n with h0 | h0
  · subst h0
    exact same_nil w Aa Ab ca cb
  · have h1 := hA.1
    have h2 := hB.1
    obtain ⟨g, o, rfl, _, c1⟩ := hA.lies (by omega)
    obtain ⟨g', o', rfl, _, c2⟩ := hB.lies (by omega)
    exact same_some w B g o g' o' n ca cb xs ys L hca hcb hma hmb (hide c1) (hide c2) hn (hide eA) (hide eB)

/-- What is kept, told for whoever reads it. -/
theorem Kept.reads {w : World} {base : Nat} {tv cv : Value} {T : List UInt8} {xs : List Value} {L : List (List UInt8)} (h : Kept w base tv cv T xs L) :
    ∃ A c B d, tv = .slice A T.length c ∧ cv = .slice B L.length d ∧ Has w w.heap.size 1 A T.length (bys T) ∧ Has w w.heap.size 1 B L.length xs ∧ Els w w.heap.size xs L ∧ L.length ≤ d ∧ d ≤ maxLen := by
  obtain ⟨A, c, rfl, _, _, h1⟩ := own_form' h.tags
  obtain ⟨B, d, rfl, h2, h3, h4⟩ := own_form' h.outer
  refine ⟨A, c, B, d, rfl, rfl, h1, h4, fun i l hl => ?_, h2, h3⟩
  obtain ⟨A', c', e, hH, _, _⟩ := h.els i l hl
  exact ⟨A', c', e, hH⟩

theorem Els.below {w w' : World} {xs : List Value} {L : List (List UInt8)} (h : Els w w.heap.size xs L) (hb : Below w.heap.size w w') : Els w' w'.heap.size xs L := fun i l hl => by
  obtain ⟨A, c, e, hH⟩ := h i l hl
  exact ⟨A, c, e, (hH.below hb).upto hb.size⟩

end Go.Proofs.Ytjannmoijoakcaa.Ber
