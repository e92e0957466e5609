/-
  The contracts of the booleans of layer 1, the program's and the document's.
-/
import Derived.Test.YtjannmoijoakcaaRows
import Derived.Test.YtjannmoijoakcaaWords
namespace Go.Proofs.Ytjannmoijoakcaa.Ber
open Go.RowKit

/-- What bytes are as a boolean: whether, and the error. -/
def toBool : List UInt8 → Bool × Int
  | [b] => ((b.toNat : Int) != 0, 0)
  | _ => (false, 2)

theorem bool_any (b : Bool) (w : World) :
    Calls Try.prog 20 #[.bool b] w fun e w' => e = .returned (.slice (some ⟨w.heap.size, 0, none⟩) 1 1) ∧ w.alloc (.cells #[c8 (if b then 255 else 0)] 5) = w' := by
  cases b <;>
  · go_enter Try.func20, Try.ntmps20
    go_wp2
    go_ret
    exact ⟨rfl, rfl⟩

theorem rbool_any (b : Bool) (w : World) :
    Calls Try.prog 23 #[.bool b] w fun e w' => e = .returned (.slice (some ⟨w.heap.size, 0, none⟩) 1 1) ∧ w.alloc (.cells #[c8 (if b then 255 else 0)] 5) = w' := by
  cases b <;>
  · go_enter Try.func23, Try.ntmps23
    go_wp2
    go_ret
    exact ⟨rfl, rfl⟩

theorem tobool_any (w : World) (B : Nat) (A : Option Addr) (n c : Nat) (l : List UInt8) (h : Has w B 1 A n (bys l)) (hc : n ≤ c) (_hm : c ≤ maxLen) :
    Calls Try.prog 21 #[.slice A n c] w fun e w' => e = .returned (.tuple #[.bool (toBool l).1, .int .i64 (toBool l).2]) ∧ w = w' := by
  have hn : l.length = n := by simpa [bys] using h.1
  unfold maxLen at _hm
  by_cases h1 : n = 1
  · subst h1
    obtain ⟨b, rfl⟩ := List.length_eq_one_iff.1 hn
    obtain ⟨g, o, rfl, _, hcell⟩ := h.lies (by simp [bys])
    have h0 := hcell 0 (c8 b) rfl
    simp only [c8, Nat.add_zero] at h0
    have hb := b.toNat_lt
    clear h hcell
    go_enter Try.func21, Try.ntmps21
    go_wp2
    go_ret2
    exact ⟨rfl, rfl⟩
  · have ht : toBool l = (false, 2) := by
      unfold toBool
      split
      · simp at hn; omega
      · rfl
    rw [ht]
    have h2 : ((n : Int) != 1) = true := by rw [bne_iff_ne]; omega
    clear h hn ht
    go_enter Try.func21, Try.ntmps21
    go_wp2
    go_ret2
    exact ⟨rfl, rfl⟩

theorem rtobool_any (w : World) (B : Nat) (A : Option Addr) (n c : Nat) (l : List UInt8) (h : Has w B 1 A n (bys l)) (hc : n ≤ c) (_hm : c ≤ maxLen) :
    Calls Try.prog 22 #[.slice A n c] w fun e w' => e = .returned (.tuple #[.bool (toBool l).1, .int .i64 (toBool l).2]) ∧ w = w' := by
  have hn : l.length = n := by simpa [bys] using h.1
  unfold maxLen at _hm
  by_cases h1 : n = 1
  · subst h1
    obtain ⟨b, rfl⟩ := List.length_eq_one_iff.1 hn
    obtain ⟨g, o, rfl, _, hcell⟩ := h.lies (by simp [bys])
    have h0 := hcell 0 (c8 b) rfl
    simp only [c8, Nat.add_zero] at h0
    have hb := b.toNat_lt
    clear h hcell
    go_enter Try.func22, Try.ntmps22
    go_wp2
    go_ret2
    exact ⟨rfl, rfl⟩
  · have ht : toBool l = (false, 2) := by
      unfold toBool
      split
      · simp at hn; omega
      · rfl
    rw [ht]
    have h2 : ((n : Int) != 1) = true := by rw [bne_iff_ne]; omega
    clear h hn ht
    go_enter Try.func22, Try.ntmps22
    go_wp2
    go_ret2
    exact ⟨rfl, rfl⟩

/-- The same, told as memory of the call's own. -/
theorem rbool_own (b : Bool) (w : World) :
    Calls Try.prog 23 #[.bool b] w fun e w' => ∃ v, e = .returned v ∧ w'.ownsRow w.heap.size 5 1 v 1 (bys [if b then 255 else 0]) ∧ Below w.heap.size w w' := by
  refine (rbool_any b w).mono ?_
  rintro e w' ⟨rfl, rfl⟩
  exact ⟨_, rfl, own_lit w #[_] 5 1 (by unfold maxLen; omega) rfl, (Below.refl _ _).alloc (Nat.le_refl _) _⟩

end Go.Proofs.Ytjannmoijoakcaa.Ber
