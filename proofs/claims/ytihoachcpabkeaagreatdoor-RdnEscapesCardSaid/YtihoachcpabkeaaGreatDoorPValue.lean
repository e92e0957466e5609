/-
  value: a value as the reference writes it. By an AI agent.
-/
import Derived.Test.YtihoachcpabkeaaGreatDoorPEsc
import Derived.BigQuiet
import Derived.Deep.QuietTactic
import Derived.Deep.LoopGhost
import Derived.Handy
import Derived.Lib.Strings
import Derived.Lib.IndexBytes
namespace Go.Proofs.YtihoachcpabkeaaGreatDoor
open Go.RowKit
set_option linter.unusedVariables false


theorem dig_at (k : Nat) (hk : k < 16) (h : k < (⟨#[48, 49, 50, 51, 52, 53, 54, 55, 56, 57, 97, 98, 99, 100, 101, 102]⟩ : ByteArray).size) : (⟨#[48, 49, 50, 51, 52, 53, 54, 55, 56, 57, 97, 98, 99, 100, 101, 102]⟩ : ByteArray)[k] = hexD k := by
  have key : ∀ j : Fin 16, (⟨#[48, 49, 50, 51, 52, 53, 54, 55, 56, 57, 97, 98, 99, 100, 101, 102]⟩ : ByteArray)[j.val]'(by exact j.isLt) = hexD j.val := by decide +kernel
  exact key ⟨k, hk⟩
theorem hex_at (k : Nat) (hk : k < 16) (W : World) : (Instr.index 9 (.string ⟨#[48, 49, 50, 51, 52, 53, 54, 55, 56, 57, 97, 98, 99, 100, 101, 102]⟩) (.int .u8 (k : Int))).run Tryz.prog W = .ok (.int .u8 ((hexD k).toNat : Int)) W := by
  rw [run_index_string (P := Tryz.prog) W 9 _ .u8 (k : Int) Tryz.underlying9]
  have hs : (⟨#[48, 49, 50, 51, 52, 53, 54, 55, 56, 57, 97, 98, 99, 100, 101, 102]⟩ : ByteArray).size = 16 := rfl
  have h0 : (0 : Int) ≤ (k : Int) ∧ (k : Int) < ((⟨#[48, 49, 50, 51, 52, 53, 54, 55, 56, 57, 97, 98, 99, 100, 101, 102]⟩ : ByteArray).size : Int) := by rw [hs]; omega
  rw [dif_pos h0]
  have := dig_at k hk (by rw [hs]; exact hk)
  simp only [Int.toNat_natCast]
  rw [this]
theorem bits_fin : ∀ j : Fin 256, bits BinOp.and IntKind.u8 ((j.val : Nat) : Int) 15 = ((j.val % 16 : Nat) : Int) := by decide +kernel
theorem and_at (c : UInt8) : bits BinOp.and IntKind.u8 (c.toNat : Int) 15 = ((c.toNat % 16 : Nat) : Int) := bits_fin ⟨c.toNat, c.toNat_lt⟩
theorem shr_at (c : UInt8) : (c.toNat : Int) / 16 = ((c.toNat / 16 : Nat) : Int) := by omega

set_option maxRecDepth 100000 in
set_option maxHeartbeats 16000000 in
theorem value_any (s : ByteArray) (hs : s.size ≤ 1000000) (w : World) :
    Calls Tryz.prog 23 #[.string s] w fun e w' => e = .returned (.string (txt (wrV s.data.toList))) ∧ Below w.heap.size w w' := by
  have hL := hide (Lib.size_eq s)
  have hat : ∀ (i : Nat) (hi : i < s.size), s.data.toList[i]? = some s[i] := fun i hi => Lib.data_getElem? s i hi
  generalize hl : s.data.toList = l at *
  replace hl := hide hl
  replace hat := hide hat
  have hwl := hide (wr_len l)
  go_enter Tryz.func23, Tryz.ntmps23
  go_wp2
  go_loopg [3, 4] s.size (fun k s3 s4 wx => ∃ (i : Nat) (o : List UInt8), i + k = s.size ∧ s4 = .int .i64 (i : Int) ∧ Hid (o ++ wrFrom (decide (i = 0)) (l.drop i) = wrV l) ∧ wx.ownsRow w.heap.size 5 1 s3 o.length (bys o) ∧ Below w.heap.size w wx)
  case atStart => exact ⟨0, [], by omega, rfl, hide rfl, nil_own _ _ _ _, Below.refl _ _⟩
  case round =>
    obtain ⟨i, o, hig, rfl, ho, hor, hbr⟩ := hrel
    cases gk with
    | zero =>
      obtain rfl : i = s.size := by omega
      have hiz : ¬ ((s.size : Int) < (s.size : Int)) := by omega
      obtain ⟨A, c, rfl, hnc, hHas⟩ := own_form hor
      have htx := txt8 wr c hHas
      have hR : Hid (o = wrV l) := hide (by
        have := ho.out
        rw [List.drop_eq_nil_of_le (by rw [← hL.out]; exact Nat.le_refl _)] at this
        simpa [wrFrom] using this)
      clear hHas hor ho
      go_wp2
      go_ret
      exact ⟨by rw [← hR.out]; rfl, hbr⟩
    | succ k =>
      have hi : i < s.size := by omega
      have hiz : (i : Int) < (s.size : Int) := by omega
      obtain ⟨c, hx⟩ : ∃ c : UInt8, s[i]'hi = c := ⟨_, rfl⟩
      have hxl : l[i]? = some c := by rw [hat.out i hi, hx]
      have hlen : Hid (o.length ≤ 3 * s.size) := hide (by
        have h1 := congrArg List.length ho.out
        have h2 := hwl.out
        have h3 := hL.out
        rw [List.length_append] at h1
        omega)
      have hsp := fun w => special_any c w
      have hnx := fun x h => wr_at ho.out hxl x h
      have hlast : decide (i + 1 = l.length) = decide (i + 1 = s.size) := by rw [hL.out]
      rw [hlast] at hnx
      replace hnx := hide hnx
      have hE := esc_is (decide (i = 0)) (decide (i + 1 = s.size)) c
      clear hxl ho hlast
      cases hE with
      | spec h e =>
        rw [h] at hsp
        have hnext := hide (hnx.out _ e)
        clear hnx e h
        have hone : (wr.alloc (.cells #[.int .u8 92, .int .u8 (c.toNat : Int)] 5)).ownsRow wr.heap.size 5 1 (.slice (some ⟨wr.heap.size, 0, none⟩) 2 2) 2 (bys [92, c]) := lit2 wr 92 c
        have hH := Has.own hone
        have hor1 := hor.alloc (.cells #[.int .u8 92, .int .u8 (c.toNat : Int)] 5)
        have hbr1 := hbr.alloc hbr.size (.cells #[.int .u8 92, .int .u8 (c.toNat : Int)] 5)
        have hs1 := hbr1.size
        clear hone hor hbr
        go_wp2_with (first
          | (go_at_call 37; refine (hsp _).mono ?_; rintro e w' ⟨rfl, rfl⟩)
          | (at_builtin; go_must (refine app8 _ rfl (.tmp 41) (.tmp 43) rfl w.heap.size _ _ o rfl hor1 _ _ 2 2 [92, c] rfl hH (by have := hlen.out; omega) hs1 ?_)))
        intro v' w3 hown3 hb3 _
        have hb4 := hbr1.trans hb3
        clear hor1 hbr1 hs1 hH hb3
        go_wp2
        go_roundg k
        case measure => omega
        case rel => exact ⟨i + 1, o ++ [92, c], by omega, by go_num, hnext, by simpa using hown3, hb4⟩
      | ahead h h1 hc e =>
        rw [h] at hsp
        obtain rfl : i = 0 := by simpa using h1
        have hnext := hide (hnx.out _ e)
        clear hnx e h h1
        rcases hc with rfl | rfl
        · have hone : (wr.alloc (.cells #[.int .u8 92, .int .u8 32] 5)).ownsRow wr.heap.size 5 1 (.slice (some ⟨wr.heap.size, 0, none⟩) 2 2) 2 (bys [92, 32]) := lit2 wr 92 32
          have hH := Has.own hone
          have hor1 := hor.alloc (.cells #[.int .u8 92, .int .u8 32] 5)
          have hbr1 := hbr.alloc hbr.size (.cells #[.int .u8 92, .int .u8 32] 5)
          have hs1 := hbr1.size
          clear hone hor hbr
          go_wp2_with (first
            | (go_at_call 37; refine (hsp _).mono ?_; rintro e w' ⟨rfl, rfl⟩)
            | (at_builtin; go_must (refine app8 _ rfl (.tmp 41) (.tmp 43) rfl w.heap.size _ _ o rfl hor1 _ _ 2 2 [92, 32] rfl hH (by have := hlen.out; omega) hs1 ?_)))
          intro v' w3 hown3 hb3 _
          have hb4 := hbr1.trans hb3
          clear hor1 hbr1 hs1 hH hb3
          go_wp2
          go_roundg k
          case measure => omega
          case rel => exact ⟨0 + 1, o ++ [92, 32], by omega, by go_num, hnext, by simpa using hown3, hb4⟩
        · have hone : (wr.alloc (.cells #[.int .u8 92, .int .u8 35] 5)).ownsRow wr.heap.size 5 1 (.slice (some ⟨wr.heap.size, 0, none⟩) 2 2) 2 (bys [92, 35]) := lit2 wr 92 35
          have hH := Has.own hone
          have hor1 := hor.alloc (.cells #[.int .u8 92, .int .u8 35] 5)
          have hbr1 := hbr.alloc hbr.size (.cells #[.int .u8 92, .int .u8 35] 5)
          have hs1 := hbr1.size
          clear hone hor hbr
          go_wp2_with (first
            | (go_at_call 37; refine (hsp _).mono ?_; rintro e w' ⟨rfl, rfl⟩)
            | (at_builtin; go_must (refine app8 _ rfl (.tmp 41) (.tmp 43) rfl w.heap.size _ _ o rfl hor1 _ _ 2 2 [92, 35] rfl hH (by have := hlen.out; omega) hs1 ?_)))
          intro v' w3 hown3 hb3 _
          have hb4 := hbr1.trans hb3
          clear hor1 hbr1 hs1 hH hb3
          go_wp2
          go_roundg k
          case measure => omega
          case rel => exact ⟨0 + 1, o ++ [92, 35], by omega, by go_num, hnext, by simpa using hown3, hb4⟩
      | behind h h0 h1 hc e =>
        rw [h] at hsp
        subst hc
        have hi0 : i ≠ 0 := by simpa using h0
        have f0 : ((i : Int) == 0) = false := beq_false_of_ne (by omega)
        have hi1 : i + 1 = s.size := by simpa using h1
        have f1 : ((i : Int) == (s.size : Int) - 1) = true := by rw [beq_iff_eq]; omega
        have hnext := hide (hnx.out _ e)
        clear hnx e h h0 h1 hi0 hi1
        have hone : (wr.alloc (.cells #[.int .u8 92, .int .u8 32] 5)).ownsRow wr.heap.size 5 1 (.slice (some ⟨wr.heap.size, 0, none⟩) 2 2) 2 (bys [92, 32]) := lit2 wr 92 32
        have hH := Has.own hone
        have hor1 := hor.alloc (.cells #[.int .u8 92, .int .u8 32] 5)
        have hbr1 := hbr.alloc hbr.size (.cells #[.int .u8 92, .int .u8 32] 5)
        have hs1 := hbr1.size
        clear hone hor hbr
        go_wp2_with (first
          | (go_at_call 37; refine (hsp _).mono ?_; rintro e w' ⟨rfl, rfl⟩)
          | (at_builtin; go_must (refine app8 _ rfl (.tmp 41) (.tmp 43) rfl w.heap.size _ _ o rfl hor1 _ _ 2 2 [92, 32] rfl hH (by have := hlen.out; omega) hs1 ?_)))
        intro v' w3 hown3 hb3 _
        have hb4 := hbr1.trans hb3
        clear hor1 hbr1 hs1 hH hb3
        go_wp2
        go_roundg k
        case measure => omega
        case rel => exact ⟨i + 1, o ++ [92, 32], by omega, by go_num, hnext, by simpa using hown3, hb4⟩
      | inside h h0 h1 hc e =>
        rw [h] at hsp
        subst hc
        have hi0 : i ≠ 0 := by simpa using h0
        have f0 : ((i : Int) == 0) = false := beq_false_of_ne (by omega)
        have hi1 : i + 1 ≠ s.size := by simpa using h1
        have f1 : ((i : Int) == (s.size : Int) - 1) = false := beq_false_of_ne (by omega)
        have hnext := hide (hnx.out _ e)
        clear hnx e h h0 h1 hi0 hi1
        have hone : (wr.alloc (.cells #[.int .u8 32] 5)).ownsRow wr.heap.size 5 1 (.slice (some ⟨wr.heap.size, 0, none⟩) 1 1) 1 (bys [32]) := one8 wr 32
        have hH := Has.own hone
        have hor1 := hor.alloc (.cells #[.int .u8 32] 5)
        have hbr1 := hbr.alloc hbr.size (.cells #[.int .u8 32] 5)
        have hs1 := hbr1.size
        clear hone hor hbr
        go_wp2_with (first
          | (go_at_call 37; refine (hsp _).mono ?_; rintro e w' ⟨rfl, rfl⟩)
          | (at_builtin; go_must (refine app8 _ rfl (.tmp 15) (.tmp 17) rfl w.heap.size _ _ o rfl hor1 _ _ 1 1 [32] rfl hH (by have := hlen.out; omega) hs1 ?_)))
        intro v' w3 hown3 hb3 _
        have hb4 := hbr1.trans hb3
        clear hor1 hbr1 hs1 hH hb3
        go_wp2
        go_roundg k
        case measure => omega
        case rel => exact ⟨i + 1, o ++ [32], by omega, by go_num, hnext, by simpa using hown3, hb4⟩
      | hash h h0 hc e =>
        rw [h] at hsp
        subst hc
        have hi0 : i ≠ 0 := by simpa using h0
        have f0 : ((i : Int) == 0) = false := beq_false_of_ne (by omega)
        have f1 : ((i : Int) == (s.size : Int) - 1) = decide (i + 1 = s.size) := by rw [Bool.eq_iff_iff, beq_iff_eq, decide_eq_true_iff]; omega
        have hnext := hide (hnx.out _ e)
        generalize decide (i + 1 = s.size) = b1 at f1
        clear hnx e h h0 hi0
        cases b1
        · have hone : (wr.alloc (.cells #[.int .u8 35] 5)).ownsRow wr.heap.size 5 1 (.slice (some ⟨wr.heap.size, 0, none⟩) 1 1) 1 (bys [35]) := one8 wr 35
          have hH := Has.own hone
          have hor1 := hor.alloc (.cells #[.int .u8 35] 5)
          have hbr1 := hbr.alloc hbr.size (.cells #[.int .u8 35] 5)
          have hs1 := hbr1.size
          clear hone hor hbr
          go_wp2_with (first
            | (go_at_call 37; refine (hsp _).mono ?_; rintro e w' ⟨rfl, rfl⟩)
            | (at_builtin; go_must (refine app8 _ rfl (.tmp 15) (.tmp 17) rfl w.heap.size _ _ o rfl hor1 _ _ 1 1 [35] rfl hH (by have := hlen.out; omega) hs1 ?_)))
          intro v' w3 hown3 hb3 _
          have hb4 := hbr1.trans hb3
          clear hor1 hbr1 hs1 hH hb3
          go_wp2
          go_roundg k
          case measure => omega
          case rel => exact ⟨i + 1, o ++ [35], by omega, by go_num, hnext, by simpa using hown3, hb4⟩
        · have hone : (wr.alloc (.cells #[.int .u8 35] 5)).ownsRow wr.heap.size 5 1 (.slice (some ⟨wr.heap.size, 0, none⟩) 1 1) 1 (bys [35]) := one8 wr 35
          have hH := Has.own hone
          have hor1 := hor.alloc (.cells #[.int .u8 35] 5)
          have hbr1 := hbr.alloc hbr.size (.cells #[.int .u8 35] 5)
          have hs1 := hbr1.size
          clear hone hor hbr
          go_wp2_with (first
            | (go_at_call 37; refine (hsp _).mono ?_; rintro e w' ⟨rfl, rfl⟩)
            | (at_builtin; go_must (refine app8 _ rfl (.tmp 15) (.tmp 17) rfl w.heap.size _ _ o rfl hor1 _ _ 1 1 [35] rfl hH (by have := hlen.out; omega) hs1 ?_)))
          intro v' w3 hown3 hb3 _
          have hb4 := hbr1.trans hb3
          clear hor1 hbr1 hs1 hH hb3
          go_wp2
          go_roundg k
          case measure => omega
          case rel => exact ⟨i + 1, o ++ [35], by omega, by go_num, hnext, by simpa using hown3, hb4⟩
      | plain h n1 n2 hc e =>
        rw [h] at hsp
        have hnext := hide (hnx.out _ e)
        have c1 : ¬ ((c.toNat : Int) < 32) := by omega
        have c2 : ¬ ((126 : Int) < (c.toNat : Int)) := by omega
        have f32 : ((c.toNat : Int) == 32) = false := ne8 (k := 32) (by omega) n1
        have f35 : ((c.toNat : Int) == 35) = false := ne8 (k := 35) (by omega) n2
        have f0 : ((i : Int) == 0) = decide (i = 0) := by rw [Bool.eq_iff_iff, beq_iff_eq, decide_eq_true_iff]; omega
        have f1 : ((i : Int) == (s.size : Int) - 1) = decide (i + 1 = s.size) := by rw [Bool.eq_iff_iff, beq_iff_eq, decide_eq_true_iff]; omega
        generalize decide (i = 0) = b0 at f0
        generalize decide (i + 1 = s.size) = b1 at f1
        clear hnx e h n1 n2 hc
        cases b0 <;> cases b1
        · have hone : (wr.alloc (.cells #[.int .u8 (c.toNat : Int)] 5)).ownsRow wr.heap.size 5 1 (.slice (some ⟨wr.heap.size, 0, none⟩) 1 1) 1 (bys [c]) := one8 wr c
          have hH := Has.own hone
          have hor1 := hor.alloc (.cells #[.int .u8 (c.toNat : Int)] 5)
          have hbr1 := hbr.alloc hbr.size (.cells #[.int .u8 (c.toNat : Int)] 5)
          have hs1 := hbr1.size
          clear hone hor hbr
          go_wp2_with (first
            | (go_at_call 37; refine (hsp _).mono ?_; rintro e w' ⟨rfl, rfl⟩)
            | (at_builtin; go_must (refine app8 _ rfl (.tmp 15) (.tmp 17) rfl w.heap.size _ _ o rfl hor1 _ _ 1 1 [c] rfl hH (by have := hlen.out; omega) hs1 ?_)))
          intro v' w3 hown3 hb3 _
          have hb4 := hbr1.trans hb3
          clear hor1 hbr1 hs1 hH hb3
          go_wp2
          go_roundg k
          case measure => omega
          case rel => exact ⟨i + 1, o ++ [c], by omega, by go_num, hnext, by simpa using hown3, hb4⟩
        · have hone : (wr.alloc (.cells #[.int .u8 (c.toNat : Int)] 5)).ownsRow wr.heap.size 5 1 (.slice (some ⟨wr.heap.size, 0, none⟩) 1 1) 1 (bys [c]) := one8 wr c
          have hH := Has.own hone
          have hor1 := hor.alloc (.cells #[.int .u8 (c.toNat : Int)] 5)
          have hbr1 := hbr.alloc hbr.size (.cells #[.int .u8 (c.toNat : Int)] 5)
          have hs1 := hbr1.size
          clear hone hor hbr
          go_wp2_with (first
            | (go_at_call 37; refine (hsp _).mono ?_; rintro e w' ⟨rfl, rfl⟩)
            | (at_builtin; go_must (refine app8 _ rfl (.tmp 15) (.tmp 17) rfl w.heap.size _ _ o rfl hor1 _ _ 1 1 [c] rfl hH (by have := hlen.out; omega) hs1 ?_)))
          intro v' w3 hown3 hb3 _
          have hb4 := hbr1.trans hb3
          clear hor1 hbr1 hs1 hH hb3
          go_wp2
          go_roundg k
          case measure => omega
          case rel => exact ⟨i + 1, o ++ [c], by omega, by go_num, hnext, by simpa using hown3, hb4⟩
        · have hone : (wr.alloc (.cells #[.int .u8 (c.toNat : Int)] 5)).ownsRow wr.heap.size 5 1 (.slice (some ⟨wr.heap.size, 0, none⟩) 1 1) 1 (bys [c]) := one8 wr c
          have hH := Has.own hone
          have hor1 := hor.alloc (.cells #[.int .u8 (c.toNat : Int)] 5)
          have hbr1 := hbr.alloc hbr.size (.cells #[.int .u8 (c.toNat : Int)] 5)
          have hs1 := hbr1.size
          clear hone hor hbr
          go_wp2_with (first
            | (go_at_call 37; refine (hsp _).mono ?_; rintro e w' ⟨rfl, rfl⟩)
            | (at_builtin; go_must (refine app8 _ rfl (.tmp 15) (.tmp 17) rfl w.heap.size _ _ o rfl hor1 _ _ 1 1 [c] rfl hH (by have := hlen.out; omega) hs1 ?_)))
          intro v' w3 hown3 hb3 _
          have hb4 := hbr1.trans hb3
          clear hor1 hbr1 hs1 hH hb3
          go_wp2
          go_roundg k
          case measure => omega
          case rel => exact ⟨i + 1, o ++ [c], by omega, by go_num, hnext, by simpa using hown3, hb4⟩
        · have hone : (wr.alloc (.cells #[.int .u8 (c.toNat : Int)] 5)).ownsRow wr.heap.size 5 1 (.slice (some ⟨wr.heap.size, 0, none⟩) 1 1) 1 (bys [c]) := one8 wr c
          have hH := Has.own hone
          have hor1 := hor.alloc (.cells #[.int .u8 (c.toNat : Int)] 5)
          have hbr1 := hbr.alloc hbr.size (.cells #[.int .u8 (c.toNat : Int)] 5)
          have hs1 := hbr1.size
          clear hone hor hbr
          go_wp2_with (first
            | (go_at_call 37; refine (hsp _).mono ?_; rintro e w' ⟨rfl, rfl⟩)
            | (at_builtin; go_must (refine app8 _ rfl (.tmp 15) (.tmp 17) rfl w.heap.size _ _ o rfl hor1 _ _ 1 1 [c] rfl hH (by have := hlen.out; omega) hs1 ?_)))
          intro v' w3 hown3 hb3 _
          have hb4 := hbr1.trans hb3
          clear hor1 hbr1 hs1 hH hb3
          go_wp2
          go_roundg k
          case measure => omega
          case rel => exact ⟨i + 1, o ++ [c], by omega, by go_num, hnext, by simpa using hown3, hb4⟩
      | hex h hc n1 n2 e =>
        rw [h] at hsp
        have hnext := hide (hnx.out _ e)
        have hlt := c.toNat_lt
        have hq := hex_at (c.toNat / 16) (by omega)
        have hr := hex_at (c.toNat % 16) (by omega)
        have sh := shr_at c
        have an := and_at c
        have f32 : ((c.toNat : Int) == 32) = false := ne8 (k := 32) (by omega) n1
        have f35 : ((c.toNat : Int) == 35) = false := ne8 (k := 35) (by omega) n2
        have f0 : ((i : Int) == 0) = decide (i = 0) := by rw [Bool.eq_iff_iff, beq_iff_eq, decide_eq_true_iff]; omega
        have f1 : ((i : Int) == (s.size : Int) - 1) = decide (i + 1 = s.size) := by rw [Bool.eq_iff_iff, beq_iff_eq, decide_eq_true_iff]; omega
        generalize decide (i = 0) = b0 at f0
        generalize decide (i + 1 = s.size) = b1 at f1
        generalize hexD (c.toNat / 16) = d1 at *
        generalize hexD (c.toNat % 16) = d2 at *
        generalize c.toNat / 16 = q at *
        generalize c.toNat % 16 = r at *
        have HB := hbr.size
        clear hnx e h n1 n2
        rcases hc with c1 | c1
        · have c2 : ((c.toNat : Int) < 32) := by omega
          clear c1 hlt
          cases b0 <;> cases b1
          · go_wp2_with (go_at_call 37; refine (hsp _).mono ?_; rintro e w' ⟨rfl, hw⟩; obtain rfl := hw.symm)
            refine grow_begin_at w.heap.size (by kernel_rfl) ?_
            have hbr0 : Below w.heap.size w wr.drew := hbr.trans ((Below.refl _ _).drew)
            have hor0 := own_below hor (Below.refl wr.heap.size wr).drew
            have hs0 := hbr0.size
            clear hor hbr HB
            generalize wr.drew = a0 at *
            refine grow_take 0 (some 52) (v := ?va0) rfl rfl (by kernel_rfl) (by kernel_rfl) (by kernel_rfl) (fun _ _ _ h => h) (by rfl) (fun W hW => ?ya0) ?_
            case ya0 =>
              go_simp <;> with_reducible rfl
            simp only [Act.put, List.setIfInBounds_toArray, List.set_cons_zero, List.set_cons_succ]
            refine grow_take 1 (some 53) (v := ?va1) rfl rfl (by kernel_rfl) (by kernel_rfl) (by kernel_rfl) (fun _ _ _ h => h) (by rfl) (fun W hW => ?ya1) ?_
            case ya1 =>
              go_simp <;> with_reducible rfl
            simp only [Act.put, List.setIfInBounds_toArray, List.set_cons_zero, List.set_cons_succ]
            refine grow_take 2 (some 54) (v := ?va2) rfl rfl (by kernel_rfl) (by kernel_rfl) (by kernel_rfl) (fun _ _ _ h => h) (by rfl) (fun W hW => ?ya2) ?_
            case ya2 =>
              go_simp <;> with_reducible rfl
            simp only [Act.put, List.setIfInBounds_toArray, List.set_cons_zero, List.set_cons_succ]
            refine grow_take 3 (some 55) (v := ?va3) rfl rfl (by kernel_rfl) (by kernel_rfl) (by kernel_rfl) (fun _ _ _ h => h) (by rfl) (fun W hW => ?ya3) ?_
            case ya3 =>
              have h1 := hq W
              go_simp <;> with_reducible rfl
            simp only [Act.put, List.setIfInBounds_toArray, List.set_cons_zero, List.set_cons_succ]
            refine grow_take 4 (some 56) (v := ?va4) rfl rfl (by kernel_rfl) (by kernel_rfl) (by kernel_rfl) (fun _ _ _ h => h) (by rfl) (fun W hW => ?ya4) ?_
            case ya4 =>
              go_simp <;> with_reducible rfl
            simp only [Act.put, List.setIfInBounds_toArray, List.set_cons_zero, List.set_cons_succ]
            refine grow_take 5 (some 57) (v := ?va5) rfl rfl (by kernel_rfl) (by kernel_rfl) (by kernel_rfl) (fun _ _ _ h => h) (by rfl) (fun W hW => ?ya5) ?_
            case ya5 =>
              go_simp <;> with_reducible rfl
            simp only [Act.put, List.setIfInBounds_toArray, List.set_cons_zero, List.set_cons_succ]
            refine grow_take 6 (some 58) (v := ?va6) rfl rfl (by kernel_rfl) (by kernel_rfl) (by kernel_rfl) (fun _ _ _ h => h) (by rfl) (fun W hW => ?ya6) ?_
            case ya6 =>
              have h1 := hr W
              go_simp <;> with_reducible rfl
            simp only [Act.put, List.setIfInBounds_toArray, List.set_cons_zero, List.set_cons_succ]
            refine grow_only 7 rfl (by kernel_rfl) (fun K hK => ?_)
            go_simp
            have hb1 : Below w.heap.size a0 (a0.alloc (.cells #[.int .u8 92, .int .u8 (d1.toNat : Int), .int .u8 (d2.toNat : Int)] 5)) := (Below.refl _ _).alloc hs0 _
            have hone : (a0.alloc (.cells #[.int .u8 92, .int .u8 (d1.toNat : Int), .int .u8 (d2.toNat : Int)] 5)).ownsRow a0.heap.size 5 1 (.slice (some ⟨a0.heap.size, 0, none⟩) 3 3) 3 (bys [92, d1, d2]) := lit3 a0 92 d1 d2
            have hH := Has.own hone
            have hor1 := hor0.alloc (.cells #[.int .u8 92, .int .u8 (d1.toNat : Int), .int .u8 (d2.toNat : Int)] 5)
            have hba := hbr0.trans hb1
            have hs1 := hba.size
            clear hone hor0 hbr0
            refine hK.out _ _ hb1 ?_
            clear hK K hb1
            try simp only [Act.put, List.setIfInBounds_toArray, List.set_cons_zero, List.set_cons_succ]
            refine grow_only 8 rfl (by kernel_rfl) (fun K hK => ?_)
            refine step8 _ (some 60) rfl rfl (.tmp 52) (.tmp 59) rfl w.heap.size _ _ o rfl hor1 _ _ 3 3 [92, d1, d2] rfl hH (by have := hlen.out; omega) hs1 ?_
            intro v' w3 hown3 hb3 _ _
            have hb4 := hba.trans hb3
            refine hK.out _ _ hb3 ?_
            clear hK K hor1 hba hs1 hH hb3
            try simp only [Act.put, List.setIfInBounds_toArray, List.set_cons_zero, List.set_cons_succ]
            refine grow_take 9 (some 3) (v := ?va9) rfl rfl (by kernel_rfl) (by kernel_rfl) (by kernel_rfl) (fun _ _ _ h => h) (by rfl) (fun W hW => ?ya9) ?_
            case ya9 =>
              go_simp <;> with_reducible rfl
            simp only [Act.put, List.setIfInBounds_toArray, List.set_cons_zero, List.set_cons_succ]
            refine grow_done (by kernel_rfl) ?_ _
            go_wp2
            go_roundg k
            case measure => omega
            case rel => exact ⟨i + 1, o ++ [92, d1, d2], by omega, by go_num, hnext, by simpa using hown3, hb4⟩
          · go_wp2_with (go_at_call 37; refine (hsp _).mono ?_; rintro e w' ⟨rfl, hw⟩; obtain rfl := hw.symm)
            refine grow_begin_at w.heap.size (by kernel_rfl) ?_
            have hbr0 : Below w.heap.size w wr.drew := hbr.trans ((Below.refl _ _).drew)
            have hor0 := own_below hor (Below.refl wr.heap.size wr).drew
            have hs0 := hbr0.size
            clear hor hbr HB
            generalize wr.drew = a0 at *
            refine grow_take 0 (some 52) (v := ?vb0) rfl rfl (by kernel_rfl) (by kernel_rfl) (by kernel_rfl) (fun _ _ _ h => h) (by rfl) (fun W hW => ?yb0) ?_
            case yb0 =>
              go_simp <;> with_reducible rfl
            simp only [Act.put, List.setIfInBounds_toArray, List.set_cons_zero, List.set_cons_succ]
            refine grow_take 1 (some 53) (v := ?vb1) rfl rfl (by kernel_rfl) (by kernel_rfl) (by kernel_rfl) (fun _ _ _ h => h) (by rfl) (fun W hW => ?yb1) ?_
            case yb1 =>
              go_simp <;> with_reducible rfl
            simp only [Act.put, List.setIfInBounds_toArray, List.set_cons_zero, List.set_cons_succ]
            refine grow_take 2 (some 54) (v := ?vb2) rfl rfl (by kernel_rfl) (by kernel_rfl) (by kernel_rfl) (fun _ _ _ h => h) (by rfl) (fun W hW => ?yb2) ?_
            case yb2 =>
              go_simp <;> with_reducible rfl
            simp only [Act.put, List.setIfInBounds_toArray, List.set_cons_zero, List.set_cons_succ]
            refine grow_take 3 (some 55) (v := ?vb3) rfl rfl (by kernel_rfl) (by kernel_rfl) (by kernel_rfl) (fun _ _ _ h => h) (by rfl) (fun W hW => ?yb3) ?_
            case yb3 =>
              have h1 := hq W
              go_simp <;> with_reducible rfl
            simp only [Act.put, List.setIfInBounds_toArray, List.set_cons_zero, List.set_cons_succ]
            refine grow_take 4 (some 56) (v := ?vb4) rfl rfl (by kernel_rfl) (by kernel_rfl) (by kernel_rfl) (fun _ _ _ h => h) (by rfl) (fun W hW => ?yb4) ?_
            case yb4 =>
              go_simp <;> with_reducible rfl
            simp only [Act.put, List.setIfInBounds_toArray, List.set_cons_zero, List.set_cons_succ]
            refine grow_take 5 (some 57) (v := ?vb5) rfl rfl (by kernel_rfl) (by kernel_rfl) (by kernel_rfl) (fun _ _ _ h => h) (by rfl) (fun W hW => ?yb5) ?_
            case yb5 =>
              go_simp <;> with_reducible rfl
            simp only [Act.put, List.setIfInBounds_toArray, List.set_cons_zero, List.set_cons_succ]
            refine grow_take 6 (some 58) (v := ?vb6) rfl rfl (by kernel_rfl) (by kernel_rfl) (by kernel_rfl) (fun _ _ _ h => h) (by rfl) (fun W hW => ?yb6) ?_
            case yb6 =>
              have h1 := hr W
              go_simp <;> with_reducible rfl
            simp only [Act.put, List.setIfInBounds_toArray, List.set_cons_zero, List.set_cons_succ]
            refine grow_only 7 rfl (by kernel_rfl) (fun K hK => ?_)
            go_simp
            have hb1 : Below w.heap.size a0 (a0.alloc (.cells #[.int .u8 92, .int .u8 (d1.toNat : Int), .int .u8 (d2.toNat : Int)] 5)) := (Below.refl _ _).alloc hs0 _
            have hone : (a0.alloc (.cells #[.int .u8 92, .int .u8 (d1.toNat : Int), .int .u8 (d2.toNat : Int)] 5)).ownsRow a0.heap.size 5 1 (.slice (some ⟨a0.heap.size, 0, none⟩) 3 3) 3 (bys [92, d1, d2]) := lit3 a0 92 d1 d2
            have hH := Has.own hone
            have hor1 := hor0.alloc (.cells #[.int .u8 92, .int .u8 (d1.toNat : Int), .int .u8 (d2.toNat : Int)] 5)
            have hba := hbr0.trans hb1
            have hs1 := hba.size
            clear hone hor0 hbr0
            refine hK.out _ _ hb1 ?_
            clear hK K hb1
            try simp only [Act.put, List.setIfInBounds_toArray, List.set_cons_zero, List.set_cons_succ]
            refine grow_only 8 rfl (by kernel_rfl) (fun K hK => ?_)
            refine step8 _ (some 60) rfl rfl (.tmp 52) (.tmp 59) rfl w.heap.size _ _ o rfl hor1 _ _ 3 3 [92, d1, d2] rfl hH (by have := hlen.out; omega) hs1 ?_
            intro v' w3 hown3 hb3 _ _
            have hb4 := hba.trans hb3
            refine hK.out _ _ hb3 ?_
            clear hK K hor1 hba hs1 hH hb3
            try simp only [Act.put, List.setIfInBounds_toArray, List.set_cons_zero, List.set_cons_succ]
            refine grow_take 9 (some 3) (v := ?vb9) rfl rfl (by kernel_rfl) (by kernel_rfl) (by kernel_rfl) (fun _ _ _ h => h) (by rfl) (fun W hW => ?yb9) ?_
            case yb9 =>
              go_simp <;> with_reducible rfl
            simp only [Act.put, List.setIfInBounds_toArray, List.set_cons_zero, List.set_cons_succ]
            refine grow_done (by kernel_rfl) ?_ _
            go_wp2
            go_roundg k
            case measure => omega
            case rel => exact ⟨i + 1, o ++ [92, d1, d2], by omega, by go_num, hnext, by simpa using hown3, hb4⟩
          · go_wp2_with (go_at_call 37; refine (hsp _).mono ?_; rintro e w' ⟨rfl, hw⟩; obtain rfl := hw.symm)
            refine grow_begin_at w.heap.size (by kernel_rfl) ?_
            have hbr0 : Below w.heap.size w wr.drew := hbr.trans ((Below.refl _ _).drew)
            have hor0 := own_below hor (Below.refl wr.heap.size wr).drew
            have hs0 := hbr0.size
            clear hor hbr HB
            generalize wr.drew = a0 at *
            refine grow_take 0 (some 52) (v := ?vc0) rfl rfl (by kernel_rfl) (by kernel_rfl) (by kernel_rfl) (fun _ _ _ h => h) (by rfl) (fun W hW => ?yc0) ?_
            case yc0 =>
              go_simp <;> with_reducible rfl
            simp only [Act.put, List.setIfInBounds_toArray, List.set_cons_zero, List.set_cons_succ]
            refine grow_take 1 (some 53) (v := ?vc1) rfl rfl (by kernel_rfl) (by kernel_rfl) (by kernel_rfl) (fun _ _ _ h => h) (by rfl) (fun W hW => ?yc1) ?_
            case yc1 =>
              go_simp <;> with_reducible rfl
            simp only [Act.put, List.setIfInBounds_toArray, List.set_cons_zero, List.set_cons_succ]
            refine grow_take 2 (some 54) (v := ?vc2) rfl rfl (by kernel_rfl) (by kernel_rfl) (by kernel_rfl) (fun _ _ _ h => h) (by rfl) (fun W hW => ?yc2) ?_
            case yc2 =>
              go_simp <;> with_reducible rfl
            simp only [Act.put, List.setIfInBounds_toArray, List.set_cons_zero, List.set_cons_succ]
            refine grow_take 3 (some 55) (v := ?vc3) rfl rfl (by kernel_rfl) (by kernel_rfl) (by kernel_rfl) (fun _ _ _ h => h) (by rfl) (fun W hW => ?yc3) ?_
            case yc3 =>
              have h1 := hq W
              go_simp <;> with_reducible rfl
            simp only [Act.put, List.setIfInBounds_toArray, List.set_cons_zero, List.set_cons_succ]
            refine grow_take 4 (some 56) (v := ?vc4) rfl rfl (by kernel_rfl) (by kernel_rfl) (by kernel_rfl) (fun _ _ _ h => h) (by rfl) (fun W hW => ?yc4) ?_
            case yc4 =>
              go_simp <;> with_reducible rfl
            simp only [Act.put, List.setIfInBounds_toArray, List.set_cons_zero, List.set_cons_succ]
            refine grow_take 5 (some 57) (v := ?vc5) rfl rfl (by kernel_rfl) (by kernel_rfl) (by kernel_rfl) (fun _ _ _ h => h) (by rfl) (fun W hW => ?yc5) ?_
            case yc5 =>
              go_simp <;> with_reducible rfl
            simp only [Act.put, List.setIfInBounds_toArray, List.set_cons_zero, List.set_cons_succ]
            refine grow_take 6 (some 58) (v := ?vc6) rfl rfl (by kernel_rfl) (by kernel_rfl) (by kernel_rfl) (fun _ _ _ h => h) (by rfl) (fun W hW => ?yc6) ?_
            case yc6 =>
              have h1 := hr W
              go_simp <;> with_reducible rfl
            simp only [Act.put, List.setIfInBounds_toArray, List.set_cons_zero, List.set_cons_succ]
            refine grow_only 7 rfl (by kernel_rfl) (fun K hK => ?_)
            go_simp
            have hb1 : Below w.heap.size a0 (a0.alloc (.cells #[.int .u8 92, .int .u8 (d1.toNat : Int), .int .u8 (d2.toNat : Int)] 5)) := (Below.refl _ _).alloc hs0 _
            have hone : (a0.alloc (.cells #[.int .u8 92, .int .u8 (d1.toNat : Int), .int .u8 (d2.toNat : Int)] 5)).ownsRow a0.heap.size 5 1 (.slice (some ⟨a0.heap.size, 0, none⟩) 3 3) 3 (bys [92, d1, d2]) := lit3 a0 92 d1 d2
            have hH := Has.own hone
            have hor1 := hor0.alloc (.cells #[.int .u8 92, .int .u8 (d1.toNat : Int), .int .u8 (d2.toNat : Int)] 5)
            have hba := hbr0.trans hb1
            have hs1 := hba.size
            clear hone hor0 hbr0
            refine hK.out _ _ hb1 ?_
            clear hK K hb1
            try simp only [Act.put, List.setIfInBounds_toArray, List.set_cons_zero, List.set_cons_succ]
            refine grow_only 8 rfl (by kernel_rfl) (fun K hK => ?_)
            refine step8 _ (some 60) rfl rfl (.tmp 52) (.tmp 59) rfl w.heap.size _ _ o rfl hor1 _ _ 3 3 [92, d1, d2] rfl hH (by have := hlen.out; omega) hs1 ?_
            intro v' w3 hown3 hb3 _ _
            have hb4 := hba.trans hb3
            refine hK.out _ _ hb3 ?_
            clear hK K hor1 hba hs1 hH hb3
            try simp only [Act.put, List.setIfInBounds_toArray, List.set_cons_zero, List.set_cons_succ]
            refine grow_take 9 (some 3) (v := ?vc9) rfl rfl (by kernel_rfl) (by kernel_rfl) (by kernel_rfl) (fun _ _ _ h => h) (by rfl) (fun W hW => ?yc9) ?_
            case yc9 =>
              go_simp <;> with_reducible rfl
            simp only [Act.put, List.setIfInBounds_toArray, List.set_cons_zero, List.set_cons_succ]
            refine grow_done (by kernel_rfl) ?_ _
            go_wp2
            go_roundg k
            case measure => omega
            case rel => exact ⟨i + 1, o ++ [92, d1, d2], by omega, by go_num, hnext, by simpa using hown3, hb4⟩
          · go_wp2_with (go_at_call 37; refine (hsp _).mono ?_; rintro e w' ⟨rfl, hw⟩; obtain rfl := hw.symm)
            refine grow_begin_at w.heap.size (by kernel_rfl) ?_
            have hbr0 : Below w.heap.size w wr.drew := hbr.trans ((Below.refl _ _).drew)
            have hor0 := own_below hor (Below.refl wr.heap.size wr).drew
            have hs0 := hbr0.size
            clear hor hbr HB
            generalize wr.drew = a0 at *
            refine grow_take 0 (some 52) (v := ?vd0) rfl rfl (by kernel_rfl) (by kernel_rfl) (by kernel_rfl) (fun _ _ _ h => h) (by rfl) (fun W hW => ?yd0) ?_
            case yd0 =>
              go_simp <;> with_reducible rfl
            simp only [Act.put, List.setIfInBounds_toArray, List.set_cons_zero, List.set_cons_succ]
            refine grow_take 1 (some 53) (v := ?vd1) rfl rfl (by kernel_rfl) (by kernel_rfl) (by kernel_rfl) (fun _ _ _ h => h) (by rfl) (fun W hW => ?yd1) ?_
            case yd1 =>
              go_simp <;> with_reducible rfl
            simp only [Act.put, List.setIfInBounds_toArray, List.set_cons_zero, List.set_cons_succ]
            refine grow_take 2 (some 54) (v := ?vd2) rfl rfl (by kernel_rfl) (by kernel_rfl) (by kernel_rfl) (fun _ _ _ h => h) (by rfl) (fun W hW => ?yd2) ?_
            case yd2 =>
              go_simp <;> with_reducible rfl
            simp only [Act.put, List.setIfInBounds_toArray, List.set_cons_zero, List.set_cons_succ]
            refine grow_take 3 (some 55) (v := ?vd3) rfl rfl (by kernel_rfl) (by kernel_rfl) (by kernel_rfl) (fun _ _ _ h => h) (by rfl) (fun W hW => ?yd3) ?_
            case yd3 =>
              have h1 := hq W
              go_simp <;> with_reducible rfl
            simp only [Act.put, List.setIfInBounds_toArray, List.set_cons_zero, List.set_cons_succ]
            refine grow_take 4 (some 56) (v := ?vd4) rfl rfl (by kernel_rfl) (by kernel_rfl) (by kernel_rfl) (fun _ _ _ h => h) (by rfl) (fun W hW => ?yd4) ?_
            case yd4 =>
              go_simp <;> with_reducible rfl
            simp only [Act.put, List.setIfInBounds_toArray, List.set_cons_zero, List.set_cons_succ]
            refine grow_take 5 (some 57) (v := ?vd5) rfl rfl (by kernel_rfl) (by kernel_rfl) (by kernel_rfl) (fun _ _ _ h => h) (by rfl) (fun W hW => ?yd5) ?_
            case yd5 =>
              go_simp <;> with_reducible rfl
            simp only [Act.put, List.setIfInBounds_toArray, List.set_cons_zero, List.set_cons_succ]
            refine grow_take 6 (some 58) (v := ?vd6) rfl rfl (by kernel_rfl) (by kernel_rfl) (by kernel_rfl) (fun _ _ _ h => h) (by rfl) (fun W hW => ?yd6) ?_
            case yd6 =>
              have h1 := hr W
              go_simp <;> with_reducible rfl
            simp only [Act.put, List.setIfInBounds_toArray, List.set_cons_zero, List.set_cons_succ]
            refine grow_only 7 rfl (by kernel_rfl) (fun K hK => ?_)
            go_simp
            have hb1 : Below w.heap.size a0 (a0.alloc (.cells #[.int .u8 92, .int .u8 (d1.toNat : Int), .int .u8 (d2.toNat : Int)] 5)) := (Below.refl _ _).alloc hs0 _
            have hone : (a0.alloc (.cells #[.int .u8 92, .int .u8 (d1.toNat : Int), .int .u8 (d2.toNat : Int)] 5)).ownsRow a0.heap.size 5 1 (.slice (some ⟨a0.heap.size, 0, none⟩) 3 3) 3 (bys [92, d1, d2]) := lit3 a0 92 d1 d2
            have hH := Has.own hone
            have hor1 := hor0.alloc (.cells #[.int .u8 92, .int .u8 (d1.toNat : Int), .int .u8 (d2.toNat : Int)] 5)
            have hba := hbr0.trans hb1
            have hs1 := hba.size
            clear hone hor0 hbr0
            refine hK.out _ _ hb1 ?_
            clear hK K hb1
            try simp only [Act.put, List.setIfInBounds_toArray, List.set_cons_zero, List.set_cons_succ]
            refine grow_only 8 rfl (by kernel_rfl) (fun K hK => ?_)
            refine step8 _ (some 60) rfl rfl (.tmp 52) (.tmp 59) rfl w.heap.size _ _ o rfl hor1 _ _ 3 3 [92, d1, d2] rfl hH (by have := hlen.out; omega) hs1 ?_
            intro v' w3 hown3 hb3 _ _
            have hb4 := hba.trans hb3
            refine hK.out _ _ hb3 ?_
            clear hK K hor1 hba hs1 hH hb3
            try simp only [Act.put, List.setIfInBounds_toArray, List.set_cons_zero, List.set_cons_succ]
            refine grow_take 9 (some 3) (v := ?vd9) rfl rfl (by kernel_rfl) (by kernel_rfl) (by kernel_rfl) (fun _ _ _ h => h) (by rfl) (fun W hW => ?yd9) ?_
            case yd9 =>
              go_simp <;> with_reducible rfl
            simp only [Act.put, List.setIfInBounds_toArray, List.set_cons_zero, List.set_cons_succ]
            refine grow_done (by kernel_rfl) ?_ _
            go_wp2
            go_roundg k
            case measure => omega
            case rel => exact ⟨i + 1, o ++ [92, d1, d2], by omega, by go_num, hnext, by simpa using hown3, hb4⟩
        · have c2 : ¬ ((c.toNat : Int) < 32) := by omega
          have c3 : ((126 : Int) < (c.toNat : Int)) := by omega
          clear c1 hlt
          cases b0 <;> cases b1
          · go_wp2_with (go_at_call 37; refine (hsp _).mono ?_; rintro e w' ⟨rfl, hw⟩; obtain rfl := hw.symm)
            refine grow_begin_at w.heap.size (by kernel_rfl) ?_
            have hbr0 : Below w.heap.size w wr.drew := hbr.trans ((Below.refl _ _).drew)
            have hor0 := own_below hor (Below.refl wr.heap.size wr).drew
            have hs0 := hbr0.size
            clear hor hbr HB
            generalize wr.drew = a0 at *
            refine grow_take 0 (some 52) (v := ?ve0) rfl rfl (by kernel_rfl) (by kernel_rfl) (by kernel_rfl) (fun _ _ _ h => h) (by rfl) (fun W hW => ?ye0) ?_
            case ye0 =>
              go_simp <;> with_reducible rfl
            simp only [Act.put, List.setIfInBounds_toArray, List.set_cons_zero, List.set_cons_succ]
            refine grow_take 1 (some 53) (v := ?ve1) rfl rfl (by kernel_rfl) (by kernel_rfl) (by kernel_rfl) (fun _ _ _ h => h) (by rfl) (fun W hW => ?ye1) ?_
            case ye1 =>
              go_simp <;> with_reducible rfl
            simp only [Act.put, List.setIfInBounds_toArray, List.set_cons_zero, List.set_cons_succ]
            refine grow_take 2 (some 54) (v := ?ve2) rfl rfl (by kernel_rfl) (by kernel_rfl) (by kernel_rfl) (fun _ _ _ h => h) (by rfl) (fun W hW => ?ye2) ?_
            case ye2 =>
              go_simp <;> with_reducible rfl
            simp only [Act.put, List.setIfInBounds_toArray, List.set_cons_zero, List.set_cons_succ]
            refine grow_take 3 (some 55) (v := ?ve3) rfl rfl (by kernel_rfl) (by kernel_rfl) (by kernel_rfl) (fun _ _ _ h => h) (by rfl) (fun W hW => ?ye3) ?_
            case ye3 =>
              have h1 := hq W
              go_simp <;> with_reducible rfl
            simp only [Act.put, List.setIfInBounds_toArray, List.set_cons_zero, List.set_cons_succ]
            refine grow_take 4 (some 56) (v := ?ve4) rfl rfl (by kernel_rfl) (by kernel_rfl) (by kernel_rfl) (fun _ _ _ h => h) (by rfl) (fun W hW => ?ye4) ?_
            case ye4 =>
              go_simp <;> with_reducible rfl
            simp only [Act.put, List.setIfInBounds_toArray, List.set_cons_zero, List.set_cons_succ]
            refine grow_take 5 (some 57) (v := ?ve5) rfl rfl (by kernel_rfl) (by kernel_rfl) (by kernel_rfl) (fun _ _ _ h => h) (by rfl) (fun W hW => ?ye5) ?_
            case ye5 =>
              go_simp <;> with_reducible rfl
            simp only [Act.put, List.setIfInBounds_toArray, List.set_cons_zero, List.set_cons_succ]
            refine grow_take 6 (some 58) (v := ?ve6) rfl rfl (by kernel_rfl) (by kernel_rfl) (by kernel_rfl) (fun _ _ _ h => h) (by rfl) (fun W hW => ?ye6) ?_
            case ye6 =>
              have h1 := hr W
              go_simp <;> with_reducible rfl
            simp only [Act.put, List.setIfInBounds_toArray, List.set_cons_zero, List.set_cons_succ]
            refine grow_only 7 rfl (by kernel_rfl) (fun K hK => ?_)
            go_simp
            have hb1 : Below w.heap.size a0 (a0.alloc (.cells #[.int .u8 92, .int .u8 (d1.toNat : Int), .int .u8 (d2.toNat : Int)] 5)) := (Below.refl _ _).alloc hs0 _
            have hone : (a0.alloc (.cells #[.int .u8 92, .int .u8 (d1.toNat : Int), .int .u8 (d2.toNat : Int)] 5)).ownsRow a0.heap.size 5 1 (.slice (some ⟨a0.heap.size, 0, none⟩) 3 3) 3 (bys [92, d1, d2]) := lit3 a0 92 d1 d2
            have hH := Has.own hone
            have hor1 := hor0.alloc (.cells #[.int .u8 92, .int .u8 (d1.toNat : Int), .int .u8 (d2.toNat : Int)] 5)
            have hba := hbr0.trans hb1
            have hs1 := hba.size
            clear hone hor0 hbr0
            refine hK.out _ _ hb1 ?_
            clear hK K hb1
            try simp only [Act.put, List.setIfInBounds_toArray, List.set_cons_zero, List.set_cons_succ]
            refine grow_only 8 rfl (by kernel_rfl) (fun K hK => ?_)
            refine step8 _ (some 60) rfl rfl (.tmp 52) (.tmp 59) rfl w.heap.size _ _ o rfl hor1 _ _ 3 3 [92, d1, d2] rfl hH (by have := hlen.out; omega) hs1 ?_
            intro v' w3 hown3 hb3 _ _
            have hb4 := hba.trans hb3
            refine hK.out _ _ hb3 ?_
            clear hK K hor1 hba hs1 hH hb3
            try simp only [Act.put, List.setIfInBounds_toArray, List.set_cons_zero, List.set_cons_succ]
            refine grow_take 9 (some 3) (v := ?ve9) rfl rfl (by kernel_rfl) (by kernel_rfl) (by kernel_rfl) (fun _ _ _ h => h) (by rfl) (fun W hW => ?ye9) ?_
            case ye9 =>
              go_simp <;> with_reducible rfl
            simp only [Act.put, List.setIfInBounds_toArray, List.set_cons_zero, List.set_cons_succ]
            refine grow_done (by kernel_rfl) ?_ _
            go_wp2
            go_roundg k
            case measure => omega
            case rel => exact ⟨i + 1, o ++ [92, d1, d2], by omega, by go_num, hnext, by simpa using hown3, hb4⟩
          · go_wp2_with (go_at_call 37; refine (hsp _).mono ?_; rintro e w' ⟨rfl, hw⟩; obtain rfl := hw.symm)
            refine grow_begin_at w.heap.size (by kernel_rfl) ?_
            have hbr0 : Below w.heap.size w wr.drew := hbr.trans ((Below.refl _ _).drew)
            have hor0 := own_below hor (Below.refl wr.heap.size wr).drew
            have hs0 := hbr0.size
            clear hor hbr HB
            generalize wr.drew = a0 at *
            refine grow_take 0 (some 52) (v := ?vf0) rfl rfl (by kernel_rfl) (by kernel_rfl) (by kernel_rfl) (fun _ _ _ h => h) (by rfl) (fun W hW => ?yf0) ?_
            case yf0 =>
              go_simp <;> with_reducible rfl
            simp only [Act.put, List.setIfInBounds_toArray, List.set_cons_zero, List.set_cons_succ]
            refine grow_take 1 (some 53) (v := ?vf1) rfl rfl (by kernel_rfl) (by kernel_rfl) (by kernel_rfl) (fun _ _ _ h => h) (by rfl) (fun W hW => ?yf1) ?_
            case yf1 =>
              go_simp <;> with_reducible rfl
            simp only [Act.put, List.setIfInBounds_toArray, List.set_cons_zero, List.set_cons_succ]
            refine grow_take 2 (some 54) (v := ?vf2) rfl rfl (by kernel_rfl) (by kernel_rfl) (by kernel_rfl) (fun _ _ _ h => h) (by rfl) (fun W hW => ?yf2) ?_
            case yf2 =>
              go_simp <;> with_reducible rfl
            simp only [Act.put, List.setIfInBounds_toArray, List.set_cons_zero, List.set_cons_succ]
            refine grow_take 3 (some 55) (v := ?vf3) rfl rfl (by kernel_rfl) (by kernel_rfl) (by kernel_rfl) (fun _ _ _ h => h) (by rfl) (fun W hW => ?yf3) ?_
            case yf3 =>
              have h1 := hq W
              go_simp <;> with_reducible rfl
            simp only [Act.put, List.setIfInBounds_toArray, List.set_cons_zero, List.set_cons_succ]
            refine grow_take 4 (some 56) (v := ?vf4) rfl rfl (by kernel_rfl) (by kernel_rfl) (by kernel_rfl) (fun _ _ _ h => h) (by rfl) (fun W hW => ?yf4) ?_
            case yf4 =>
              go_simp <;> with_reducible rfl
            simp only [Act.put, List.setIfInBounds_toArray, List.set_cons_zero, List.set_cons_succ]
            refine grow_take 5 (some 57) (v := ?vf5) rfl rfl (by kernel_rfl) (by kernel_rfl) (by kernel_rfl) (fun _ _ _ h => h) (by rfl) (fun W hW => ?yf5) ?_
            case yf5 =>
              go_simp <;> with_reducible rfl
            simp only [Act.put, List.setIfInBounds_toArray, List.set_cons_zero, List.set_cons_succ]
            refine grow_take 6 (some 58) (v := ?vf6) rfl rfl (by kernel_rfl) (by kernel_rfl) (by kernel_rfl) (fun _ _ _ h => h) (by rfl) (fun W hW => ?yf6) ?_
            case yf6 =>
              have h1 := hr W
              go_simp <;> with_reducible rfl
            simp only [Act.put, List.setIfInBounds_toArray, List.set_cons_zero, List.set_cons_succ]
            refine grow_only 7 rfl (by kernel_rfl) (fun K hK => ?_)
            go_simp
            have hb1 : Below w.heap.size a0 (a0.alloc (.cells #[.int .u8 92, .int .u8 (d1.toNat : Int), .int .u8 (d2.toNat : Int)] 5)) := (Below.refl _ _).alloc hs0 _
            have hone : (a0.alloc (.cells #[.int .u8 92, .int .u8 (d1.toNat : Int), .int .u8 (d2.toNat : Int)] 5)).ownsRow a0.heap.size 5 1 (.slice (some ⟨a0.heap.size, 0, none⟩) 3 3) 3 (bys [92, d1, d2]) := lit3 a0 92 d1 d2
            have hH := Has.own hone
            have hor1 := hor0.alloc (.cells #[.int .u8 92, .int .u8 (d1.toNat : Int), .int .u8 (d2.toNat : Int)] 5)
            have hba := hbr0.trans hb1
            have hs1 := hba.size
            clear hone hor0 hbr0
            refine hK.out _ _ hb1 ?_
            clear hK K hb1
            try simp only [Act.put, List.setIfInBounds_toArray, List.set_cons_zero, List.set_cons_succ]
            refine grow_only 8 rfl (by kernel_rfl) (fun K hK => ?_)
            refine step8 _ (some 60) rfl rfl (.tmp 52) (.tmp 59) rfl w.heap.size _ _ o rfl hor1 _ _ 3 3 [92, d1, d2] rfl hH (by have := hlen.out; omega) hs1 ?_
            intro v' w3 hown3 hb3 _ _
            have hb4 := hba.trans hb3
            refine hK.out _ _ hb3 ?_
            clear hK K hor1 hba hs1 hH hb3
            try simp only [Act.put, List.setIfInBounds_toArray, List.set_cons_zero, List.set_cons_succ]
            refine grow_take 9 (some 3) (v := ?vf9) rfl rfl (by kernel_rfl) (by kernel_rfl) (by kernel_rfl) (fun _ _ _ h => h) (by rfl) (fun W hW => ?yf9) ?_
            case yf9 =>
              go_simp <;> with_reducible rfl
            simp only [Act.put, List.setIfInBounds_toArray, List.set_cons_zero, List.set_cons_succ]
            refine grow_done (by kernel_rfl) ?_ _
            go_wp2
            go_roundg k
            case measure => omega
            case rel => exact ⟨i + 1, o ++ [92, d1, d2], by omega, by go_num, hnext, by simpa using hown3, hb4⟩
          · go_wp2_with (go_at_call 37; refine (hsp _).mono ?_; rintro e w' ⟨rfl, hw⟩; obtain rfl := hw.symm)
            refine grow_begin_at w.heap.size (by kernel_rfl) ?_
            have hbr0 : Below w.heap.size w wr.drew := hbr.trans ((Below.refl _ _).drew)
            have hor0 := own_below hor (Below.refl wr.heap.size wr).drew
            have hs0 := hbr0.size
            clear hor hbr HB
            generalize wr.drew = a0 at *
            refine grow_take 0 (some 52) (v := ?vg0) rfl rfl (by kernel_rfl) (by kernel_rfl) (by kernel_rfl) (fun _ _ _ h => h) (by rfl) (fun W hW => ?yg0) ?_
            case yg0 =>
              go_simp <;> with_reducible rfl
            simp only [Act.put, List.setIfInBounds_toArray, List.set_cons_zero, List.set_cons_succ]
            refine grow_take 1 (some 53) (v := ?vg1) rfl rfl (by kernel_rfl) (by kernel_rfl) (by kernel_rfl) (fun _ _ _ h => h) (by rfl) (fun W hW => ?yg1) ?_
            case yg1 =>
              go_simp <;> with_reducible rfl
            simp only [Act.put, List.setIfInBounds_toArray, List.set_cons_zero, List.set_cons_succ]
            refine grow_take 2 (some 54) (v := ?vg2) rfl rfl (by kernel_rfl) (by kernel_rfl) (by kernel_rfl) (fun _ _ _ h => h) (by rfl) (fun W hW => ?yg2) ?_
            case yg2 =>
              go_simp <;> with_reducible rfl
            simp only [Act.put, List.setIfInBounds_toArray, List.set_cons_zero, List.set_cons_succ]
            refine grow_take 3 (some 55) (v := ?vg3) rfl rfl (by kernel_rfl) (by kernel_rfl) (by kernel_rfl) (fun _ _ _ h => h) (by rfl) (fun W hW => ?yg3) ?_
            case yg3 =>
              have h1 := hq W
              go_simp <;> with_reducible rfl
            simp only [Act.put, List.setIfInBounds_toArray, List.set_cons_zero, List.set_cons_succ]
            refine grow_take 4 (some 56) (v := ?vg4) rfl rfl (by kernel_rfl) (by kernel_rfl) (by kernel_rfl) (fun _ _ _ h => h) (by rfl) (fun W hW => ?yg4) ?_
            case yg4 =>
              go_simp <;> with_reducible rfl
            simp only [Act.put, List.setIfInBounds_toArray, List.set_cons_zero, List.set_cons_succ]
            refine grow_take 5 (some 57) (v := ?vg5) rfl rfl (by kernel_rfl) (by kernel_rfl) (by kernel_rfl) (fun _ _ _ h => h) (by rfl) (fun W hW => ?yg5) ?_
            case yg5 =>
              go_simp <;> with_reducible rfl
            simp only [Act.put, List.setIfInBounds_toArray, List.set_cons_zero, List.set_cons_succ]
            refine grow_take 6 (some 58) (v := ?vg6) rfl rfl (by kernel_rfl) (by kernel_rfl) (by kernel_rfl) (fun _ _ _ h => h) (by rfl) (fun W hW => ?yg6) ?_
            case yg6 =>
              have h1 := hr W
              go_simp <;> with_reducible rfl
            simp only [Act.put, List.setIfInBounds_toArray, List.set_cons_zero, List.set_cons_succ]
            refine grow_only 7 rfl (by kernel_rfl) (fun K hK => ?_)
            go_simp
            have hb1 : Below w.heap.size a0 (a0.alloc (.cells #[.int .u8 92, .int .u8 (d1.toNat : Int), .int .u8 (d2.toNat : Int)] 5)) := (Below.refl _ _).alloc hs0 _
            have hone : (a0.alloc (.cells #[.int .u8 92, .int .u8 (d1.toNat : Int), .int .u8 (d2.toNat : Int)] 5)).ownsRow a0.heap.size 5 1 (.slice (some ⟨a0.heap.size, 0, none⟩) 3 3) 3 (bys [92, d1, d2]) := lit3 a0 92 d1 d2
            have hH := Has.own hone
            have hor1 := hor0.alloc (.cells #[.int .u8 92, .int .u8 (d1.toNat : Int), .int .u8 (d2.toNat : Int)] 5)
            have hba := hbr0.trans hb1
            have hs1 := hba.size
            clear hone hor0 hbr0
            refine hK.out _ _ hb1 ?_
            clear hK K hb1
            try simp only [Act.put, List.setIfInBounds_toArray, List.set_cons_zero, List.set_cons_succ]
            refine grow_only 8 rfl (by kernel_rfl) (fun K hK => ?_)
            refine step8 _ (some 60) rfl rfl (.tmp 52) (.tmp 59) rfl w.heap.size _ _ o rfl hor1 _ _ 3 3 [92, d1, d2] rfl hH (by have := hlen.out; omega) hs1 ?_
            intro v' w3 hown3 hb3 _ _
            have hb4 := hba.trans hb3
            refine hK.out _ _ hb3 ?_
            clear hK K hor1 hba hs1 hH hb3
            try simp only [Act.put, List.setIfInBounds_toArray, List.set_cons_zero, List.set_cons_succ]
            refine grow_take 9 (some 3) (v := ?vg9) rfl rfl (by kernel_rfl) (by kernel_rfl) (by kernel_rfl) (fun _ _ _ h => h) (by rfl) (fun W hW => ?yg9) ?_
            case yg9 =>
              go_simp <;> with_reducible rfl
            simp only [Act.put, List.setIfInBounds_toArray, List.set_cons_zero, List.set_cons_succ]
            refine grow_done (by kernel_rfl) ?_ _
            go_wp2
            go_roundg k
            case measure => omega
            case rel => exact ⟨i + 1, o ++ [92, d1, d2], by omega, by go_num, hnext, by simpa using hown3, hb4⟩
          · go_wp2_with (go_at_call 37; refine (hsp _).mono ?_; rintro e w' ⟨rfl, hw⟩; obtain rfl := hw.symm)
            refine grow_begin_at w.heap.size (by kernel_rfl) ?_
            have hbr0 : Below w.heap.size w wr.drew := hbr.trans ((Below.refl _ _).drew)
            have hor0 := own_below hor (Below.refl wr.heap.size wr).drew
            have hs0 := hbr0.size
            clear hor hbr HB
            generalize wr.drew = a0 at *
            refine grow_take 0 (some 52) (v := ?vh0) rfl rfl (by kernel_rfl) (by kernel_rfl) (by kernel_rfl) (fun _ _ _ h => h) (by rfl) (fun W hW => ?yh0) ?_
            case yh0 =>
              go_simp <;> with_reducible rfl
            simp only [Act.put, List.setIfInBounds_toArray, List.set_cons_zero, List.set_cons_succ]
            refine grow_take 1 (some 53) (v := ?vh1) rfl rfl (by kernel_rfl) (by kernel_rfl) (by kernel_rfl) (fun _ _ _ h => h) (by rfl) (fun W hW => ?yh1) ?_
            case yh1 =>
              go_simp <;> with_reducible rfl
            simp only [Act.put, List.setIfInBounds_toArray, List.set_cons_zero, List.set_cons_succ]
            refine grow_take 2 (some 54) (v := ?vh2) rfl rfl (by kernel_rfl) (by kernel_rfl) (by kernel_rfl) (fun _ _ _ h => h) (by rfl) (fun W hW => ?yh2) ?_
            case yh2 =>
              go_simp <;> with_reducible rfl
            simp only [Act.put, List.setIfInBounds_toArray, List.set_cons_zero, List.set_cons_succ]
            refine grow_take 3 (some 55) (v := ?vh3) rfl rfl (by kernel_rfl) (by kernel_rfl) (by kernel_rfl) (fun _ _ _ h => h) (by rfl) (fun W hW => ?yh3) ?_
            case yh3 =>
              have h1 := hq W
              go_simp <;> with_reducible rfl
            simp only [Act.put, List.setIfInBounds_toArray, List.set_cons_zero, List.set_cons_succ]
            refine grow_take 4 (some 56) (v := ?vh4) rfl rfl (by kernel_rfl) (by kernel_rfl) (by kernel_rfl) (fun _ _ _ h => h) (by rfl) (fun W hW => ?yh4) ?_
            case yh4 =>
              go_simp <;> with_reducible rfl
            simp only [Act.put, List.setIfInBounds_toArray, List.set_cons_zero, List.set_cons_succ]
            refine grow_take 5 (some 57) (v := ?vh5) rfl rfl (by kernel_rfl) (by kernel_rfl) (by kernel_rfl) (fun _ _ _ h => h) (by rfl) (fun W hW => ?yh5) ?_
            case yh5 =>
              go_simp <;> with_reducible rfl
            simp only [Act.put, List.setIfInBounds_toArray, List.set_cons_zero, List.set_cons_succ]
            refine grow_take 6 (some 58) (v := ?vh6) rfl rfl (by kernel_rfl) (by kernel_rfl) (by kernel_rfl) (fun _ _ _ h => h) (by rfl) (fun W hW => ?yh6) ?_
            case yh6 =>
              have h1 := hr W
              go_simp <;> with_reducible rfl
            simp only [Act.put, List.setIfInBounds_toArray, List.set_cons_zero, List.set_cons_succ]
            refine grow_only 7 rfl (by kernel_rfl) (fun K hK => ?_)
            go_simp
            have hb1 : Below w.heap.size a0 (a0.alloc (.cells #[.int .u8 92, .int .u8 (d1.toNat : Int), .int .u8 (d2.toNat : Int)] 5)) := (Below.refl _ _).alloc hs0 _
            have hone : (a0.alloc (.cells #[.int .u8 92, .int .u8 (d1.toNat : Int), .int .u8 (d2.toNat : Int)] 5)).ownsRow a0.heap.size 5 1 (.slice (some ⟨a0.heap.size, 0, none⟩) 3 3) 3 (bys [92, d1, d2]) := lit3 a0 92 d1 d2
            have hH := Has.own hone
            have hor1 := hor0.alloc (.cells #[.int .u8 92, .int .u8 (d1.toNat : Int), .int .u8 (d2.toNat : Int)] 5)
            have hba := hbr0.trans hb1
            have hs1 := hba.size
            clear hone hor0 hbr0
            refine hK.out _ _ hb1 ?_
            clear hK K hb1
            try simp only [Act.put, List.setIfInBounds_toArray, List.set_cons_zero, List.set_cons_succ]
            refine grow_only 8 rfl (by kernel_rfl) (fun K hK => ?_)
            refine step8 _ (some 60) rfl rfl (.tmp 52) (.tmp 59) rfl w.heap.size _ _ o rfl hor1 _ _ 3 3 [92, d1, d2] rfl hH (by have := hlen.out; omega) hs1 ?_
            intro v' w3 hown3 hb3 _ _
            have hb4 := hba.trans hb3
            refine hK.out _ _ hb3 ?_
            clear hK K hor1 hba hs1 hH hb3
            try simp only [Act.put, List.setIfInBounds_toArray, List.set_cons_zero, List.set_cons_succ]
            refine grow_take 9 (some 3) (v := ?vh9) rfl rfl (by kernel_rfl) (by kernel_rfl) (by kernel_rfl) (fun _ _ _ h => h) (by rfl) (fun W hW => ?yh9) ?_
            case yh9 =>
              go_simp <;> with_reducible rfl
            simp only [Act.put, List.setIfInBounds_toArray, List.set_cons_zero, List.set_cons_succ]
            refine grow_done (by kernel_rfl) ?_ _
            go_wp2
            go_roundg k
            case measure => omega
            case rel => exact ⟨i + 1, o ++ [92, d1, d2], by omega, by go_num, hnext, by simpa using hown3, hb4⟩

end Go.Proofs.YtihoachcpabkeaaGreatDoor
