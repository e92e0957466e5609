/-
  Small letters: small, sameLetters, and the reference's Lower. By an AI agent.
-/
import Derived.Test.YtedenhfpbabjkaaGreatDoorRMath
import Derived.Test.YtedenhfpbabjkaaGreatDoorSeat
import Derived.BigQuiet
import Derived.Deep.QuietTactic
import Derived.Deep.LoopGhost
import Derived.Handy
import Derived.Lib.Strings
import Derived.Lib.IndexBytes
namespace Go.Proofs.YtedenhfpbabjkaaGreatDoor
open Go.RowKit

set_option maxRecDepth 100000 in
set_option maxHeartbeats 4000000 in
theorem small_any (b : UInt8) (w : World) :
    Calls Tryz.prog 53 #[.int .u8 (b.toNat : Int)] w fun e w' => e = .returned (.int .u8 ((low b).toNat : Int)) ∧ w' = w := by
  have hlt := b.toNat_lt
  have hl := low_toNat b
  generalize (low b).toNat = L at hl ⊢
  generalize b.toNat = x at *
  go_enter Tryz.func53, Tryz.ntmps53
  by_cases h1 : (65 : Int) ≤ (x : Int)
  · by_cases h2 : (x : Int) ≤ 90
    · have e : L = x + 32 := by rw [hl, if_pos (by omega)]
      subst e
      clear hl
      go_wp2
      go_ret
      refine ⟨?_, rfl⟩
      show Ending.returned (Value.int IntKind.u8 ((x : Int) - 65 + 97)) = Ending.returned (Value.int IntKind.u8 ((x + 32 : Nat) : Int))
      congr 2
      omega
    · have e : L = x := by rw [hl, if_neg (by omega)]
      subst e
      clear hl
      go_wp2
      go_ret
      exact ⟨rfl, rfl⟩
  · have e : L = x := by rw [hl, if_neg (by omega)]
    subst e
    clear hl
    go_wp2
    go_ret
    exact ⟨rfl, rfl⟩

theorem drewN_of {w wr : World} (h : ∃ k, wr = w.drewN k) (n : Nat) : ∃ k, wr.drewN n = w.drewN k := by
  obtain ⟨k, rfl⟩ := h
  exact ⟨k + n, World.drewN_drewN _ _ _⟩

theorem lows_at {l : List UInt8} {i : Nat} {x : UInt8} (h : l[i]? = some x) : (lows l)[i]? = some (low x) := by
  unfold lows; rw [List.getElem?_map, h]; rfl

set_option maxRecDepth 100000 in
set_option maxHeartbeats 8000000 in
theorem letters_any (a b : ByteArray) (h48 : a.size ≤ 281474976710656) (w : World) :
    Calls Tryz.prog 35 #[.string a, .string b] w fun e w' => e = .returned (.bool (decide (lows a.data.toList = lows b.data.toList))) ∧ ∃ k, w' = w.drewN k := by
  have ha := Lib.size_eq a
  have hb := Lib.size_eq b
  by_cases hab : a.size = b.size
  · have hz : ((a.size : Int) == (b.size : Int)) = true := by simp [hab]
    have H := hide (p := a.size = b.size) hab
    clear hab
    replace ha := hide ha
    replace hb := hide hb
    go_enter Tryz.func35, Tryz.ntmps35
    go_wp2
    go_loopg [13] a.size (fun g s13 wx => ∃ i : Nat, i + g = a.size ∧ s13 = .int .i64 (i : Int) ∧ Hid (∃ k, wx = w.drewN k) ∧ ∀ j, j < i → (lows a.data.toList)[j]? = (lows b.data.toList)[j]?)
    case atStart => exact ⟨0, by omega, rfl, hide ⟨0, rfl⟩, fun j hj => by omega⟩
    case round =>
      obtain ⟨i, hig, rfl, hwr, hpre⟩ := hrel
      replace hpre := hide hpre
      cases gk with
      | zero =>
        obtain rfl : i = a.size := by omega
        have hiz : ¬ ((a.size : Int) < (a.size : Int)) := by omega
        have hd : decide (lows a.data.toList = lows b.data.toList) = true := by
          refine decide_eq_true ?_
          refine List.ext_getElem? fun j => ?_
          by_cases hj : j < a.size
          · exact hpre.out j hj
          · rw [List.getElem?_eq_none (by rw [lows_length, ← ha.out]; omega), List.getElem?_eq_none (by rw [lows_length, ← hb.out, ← H.out]; omega)]
        replace hd := hide hd
        go_wp2
        go_ret
        exact ⟨by rw [hd.out]; rfl, hwr.out⟩
      | succ g =>
        have hi : i < a.size := by omega
        have hj : i < b.size := by rw [← H.out]; exact hi
        have hiz : (i : Int) < (a.size : Int) := by omega
        have hjz : (i : Int) < (b.size : Int) := by omega
        obtain ⟨x, hx⟩ : ∃ x : UInt8, a[i]'hi = x := ⟨_, rfl⟩
        obtain ⟨y, hy⟩ : ∃ y : UInt8, b[i]'hj = y := ⟨_, rfl⟩
        have Hx := hide (lows_at (by rw [← hx]; exact Lib.data_getElem? a i hi : a.data.toList[i]? = some x))
        have Hy := hide (lows_at (by rw [← hy]; exact Lib.data_getElem? b i hj : b.data.toList[i]? = some y))
        by_cases hxy : low x = low y
        · have hne : (((low x).toNat : Int) != ((low y).toNat : Int)) = false := by rw [hxy]; simp
          have hpre' : Hid (∀ j, j < i + 1 → (lows a.data.toList)[j]? = (lows b.data.toList)[j]?) := by
            refine hide fun j hj => ?_
            by_cases hj' : j < i
            · exact hpre.out j hj'
            · obtain rfl : j = i := by omega
              rw [Hx.out, Hy.out, hxy]
          have h1 := hide hxy
          clear hxy hpre
          go_wp2
          go_quiet (first | (go_at_call 53; refine Calls.quiet_of_same (small_any _ _)))
          go_wp2
          go_roundg g
          case measure => omega
          case rel => exact ⟨i + 1, by omega, by go_num, hide (drewN_of hwr.out _), hpre'.out⟩
        · have hne : (((low x).toNat : Int) != ((low y).toNat : Int)) = true := by
            simp only [bne_iff_ne, ne_eq]
            intro e
            exact hxy (u8_ext (by omega))
          have hd : decide (lows a.data.toList = lows b.data.toList) = false := by
            refine decide_eq_false fun e => hxy ?_
            have := Hx.out
            rw [e, Hy.out] at this
            exact (Option.some.inj this).symm
          replace hd := hide hd
          clear hxy hpre
          go_wp2
          go_quiet (first | (go_at_call 53; refine Calls.quiet_of_same (small_any _ _)))
          go_wp2
          go_ret
          exact ⟨by rw [hd.out]; rfl, drewN_of hwr.out _⟩
  · have hz : ((a.size : Int) == (b.size : Int)) = false := beq_false_of_ne (by omega)
    have hd : decide (lows a.data.toList = lows b.data.toList) = false := by
      refine decide_eq_false fun h => hab ?_
      have := congrArg List.length h
      rw [lows_length, lows_length] at this
      omega
    go_enter Tryz.func35, Tryz.ntmps35
    replace hd := hide hd
    clear hab ha hb
    go_wp2
    go_ret
    exact ⟨by rw [hd.out]; rfl, 0, rfl⟩

end Go.Proofs.YtedenhfpbabjkaaGreatDoor
