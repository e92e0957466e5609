/-
  read: a value as the reference reads it. By an AI agent.
-/
import Derived.Test.YtihoachcpabkeaaGreatDoorPEsc
import Derived.BigQuiet
import Derived.Deep.QuietTactic
import Derived.Deep.LoopGhost
import Derived.Handy
import Derived.Lib.Strings
import Derived.Lib.IndexBytes
namespace Go.Proofs.YtihoachcpabkeaaGreatDoor
open Go.RowKit
set_option linter.unusedVariables false

theorem drop_at {l a : List UInt8} {i : Nat} (h : l.drop i = a) (j : Nat) : l[i + j]? = a[j]? := by rw [← h, List.getElem?_drop]
theorem drop_more {l a : List UInt8} {i : Nat} (h : l.drop i = a) (j : Nat) : a.drop j = l.drop (i + j) := by rw [← h, List.drop_drop]
theorem drop_len {l a : List UInt8} {i : Nat} (h : l.drop i = a) (hi : i ≤ l.length) : l.length = i + a.length := by rw [← h, List.length_drop]; omega

/-- What has been read, and what is still to be. -/
def RdAt (l o : List UInt8) (i : Nat) : Prop := rd l = (rdFrom (decide (i = 0)) (l.drop i)).map (o ++ ·)
theorem RdAt.start (l : List UInt8) : RdAt l [] 0 := by
  unfold RdAt rd
  cases h : rdFrom true l <;> simp [h]
theorem RdAt.none {l o : List UInt8} {i : Nat} (h : RdAt l o i) (hn : rdFrom (decide (i = 0)) (l.drop i) = none) : rd l = none := by
  unfold RdAt at h; rw [h, hn]; rfl
theorem RdAt.more {l o r : List UInt8} {i : Nat} (h : RdAt l o i) (x : UInt8) (j : Nat) (hr : r = l.drop (i + (j + 1))) (hn : rdFrom (decide (i = 0)) (l.drop i) = (rdFrom false r).map (x :: ·)) : RdAt l (o ++ [x]) (i + (j + 1)) := by
  unfold RdAt at h ⊢
  rw [h, hn, hr, Option.map_map]
  have e : decide (i + (j + 1) = 0) = false := by simp
  rw [e]
  congr 1
  funext u
  simp
theorem RdAt.done {l o : List UInt8} {i : Nat} (h : RdAt l o i) (hi : l.length ≤ i) : rd l = some o := by
  unfold RdAt at h
  rw [h, List.drop_eq_nil_of_le hi]
  cases decide (i = 0) <;> simp [rdFrom]

theorem wrap_in (x : Int) (h0 : -9223372036854775808 ≤ x) (h1 : x ≤ 9223372036854775807) : IntKind.i64.wrap x = x := by
  simp [IntKind.wrap, IntKind.bits, IntKind.signed]
  omega
theorem get_run (s : ByteArray) (i : Nat) (c : UInt8) (hi : i < s.size) (hx : s[i]'hi = c) (x : Int) (hxi : x = (i : Int)) (W : World) : (Instr.index 9 (.string s) (.int .i64 x)).run Tryz.prog W = .ok (.int .u8 (c.toNat : Int)) W := by
  subst hxi
  rw [run_index_string (P := Tryz.prog) W 9 _ .i64 (i : Int) Tryz.underlying9]
  have h0 : (0 : Int) ≤ (i : Int) ∧ (i : Int) < (s.size : Int) := by omega
  rw [dif_pos h0]
  simp only [Int.toNat_natCast]
  rw [hx]

set_option maxRecDepth 100000 in
set_option maxHeartbeats 16000000 in
theorem rread_any (s : ByteArray) (hs : s.size ≤ 1000000) (w : World) :
    Calls Tryz.prog 47 #[.string s] w fun e w' => e = .returned (.tuple #[.string (txt ((rd s.data.toList).getD [])), .bool (rd s.data.toList).isSome]) ∧ Below w.heap.size w w' := by
  have hL := hide (Lib.size_eq s)
  have hat : ∀ (i : Nat) (hi : i < s.size), s.data.toList[i]? = some s[i] := fun i hi => Lib.data_getElem? s i hi
  generalize hl : s.data.toList = l at *
  replace hl := hide hl
  replace hat := hide hat
  go_enter Tryz.func47, Tryz.ntmps47
  go_wp2
  go_loopg [4, 5] s.size (fun k s4 s5 wx => ∃ (i : Nat) (o : List UInt8), i + k = s.size ∧ s5 = .int .i64 (i : Int) ∧ i ≤ s.size ∧ Hid (RdAt l o i) ∧ o.length ≤ i ∧ wx.ownsRow w.heap.size 5 1 s4 o.length (bys o) ∧ Below w.heap.size w wx)
  case atStart => exact ⟨0, [], by omega, rfl, by omega, hide (RdAt.start l), by simp, nil_own _ _ _ _, Below.refl _ _⟩
  case round =>
    obtain ⟨i, o, hig, rfl, hi1, hC, hlen0, hor, hbr⟩ := hrel
    have hlen := hide hlen0
    clear hlen0
    cases gk with
    | zero =>
      obtain rfl : i = s.size := by omega
      have hiz : ¬ ((s.size : Int) < (s.size : Int)) := by omega
      obtain ⟨A, c, rfl, hnc, hHas⟩ := own_form hor
      have htx := txt8 wr c hHas
      have hR : Hid (rd l = some o) := hide (hC.out.done (by rw [← hL.out]; exact Nat.le_refl _))
      clear hHas hor hC
      go_wp2
      go_ret2
      exact ⟨by rw [hR.out]; rfl, hbr⟩
    | succ k =>
      have hi : i < s.size := by omega
      have hiz : (i : Int) < (s.size : Int) := by omega
      have hll := hL.out
      have hW := rway (decide (i = 0)) (l.drop i) (fun h => by have := congrArg List.length h; rw [List.length_drop] at this; simp at this; omega)
      have at0 : ∀ c r, l.drop i = c :: r → s[i]'hi = c := fun c r h => by
        have h1 := drop_at h 0
        rw [Nat.add_zero, hat.out i hi] at h1
        simpa using h1
      have at1 : ∀ c d r, l.drop i = c :: d :: r → ∃ h : i + 1 < s.size, s[i + 1]'h = d := fun c d r h => by
        have h0 := drop_len h (by omega)
        simp only [List.length_cons] at h0
        have h2 : i + 1 < s.size := by omega
        have h1 := drop_at h 1
        rw [hat.out (i + 1) h2] at h1
        exact ⟨h2, by simpa using h1⟩
      have at2 : ∀ c d e r, l.drop i = c :: d :: e :: r → ∃ h : i + 2 < s.size, s[i + 2]'h = e := fun c d e r h => by
        have h0 := drop_len h (by omega)
        simp only [List.length_cons] at h0
        have h2 : i + 2 < s.size := by omega
        have h1 := drop_at h 2
        rw [hat.out (i + 2) h2] at h1
        exact ⟨h2, by simpa using h1⟩
      have hempty : ∀ c r, l.drop i = c :: r → r.isEmpty = decide (i + 1 = s.size) := fun c r h => by
        have h0 := drop_len h (by omega)
        simp only [List.length_cons] at h0
        rw [Bool.eq_iff_iff, List.isEmpty_iff_length_eq_zero, decide_eq_true_iff]
        omega
      have f0 : ((i : Int) == 0) = decide (i = 0) := by rw [Bool.eq_iff_iff, beq_iff_eq, decide_eq_true_iff]; omega
      have f1 : ((i : Int) == (s.size : Int) - 1) = decide (i + 1 = s.size) := by rw [Bool.eq_iff_iff, beq_iff_eq, decide_eq_true_iff]; omega
      have hnz : ∀ j, decide (i + (j + 1) = 0) = false := fun j => by simp
      clear hat
      cases hW with
      | bad c r h h92 hb e1 e2 =>
        have hx := at0 _ _ h
        have hR := hide (hC.out.none e1)
        have hn92 : ((c.toNat : Int) == 92) = false := ne8 (k := 92) (by omega) h92
        have hsp := fun w => special_any c w
        rw [hempty _ _ h] at hb
        clear e1 e2 h at0 at1 at2 hempty hll hC
        unfold isBad at hb
        generalize decide (i = 0) = b0 at *
        generalize decide (i + 1 = s.size) = b1 at *
        cases hsc : isSpec c with
        | true =>
          rw [hsc] at hsp
          clear hb hsc
          clear hor
          go_wp2_with (go_at_call 37; refine (hsp _).mono ?_; rintro e w' ⟨rfl, hw⟩; obtain rfl := hw.symm)
          go_ret2
          exact ⟨by rw [hR.out]; rfl, hbr⟩
        | false =>
          rw [hsc] at hsp hb
          by_cases h32 : c = 32
          · subst h32
            have hbb : (b0 || b1) = true := by simpa using hb
            clear hb hsc h92
            cases b0 with
            | true =>
              clear hor
              go_wp2_with (go_at_call 37; refine (hsp _).mono ?_; rintro e w' ⟨rfl, hw⟩; obtain rfl := hw.symm)
              go_ret2
              exact ⟨by rw [hR.out]; rfl, hbr⟩
            | false =>
              obtain rfl : b1 = true := by simpa using hbb
              clear hor
              go_wp2_with (go_at_call 37; refine (hsp _).mono ?_; rintro e w' ⟨rfl, hw⟩; obtain rfl := hw.symm)
              go_ret2
              exact ⟨by rw [hR.out]; rfl, hbr⟩
          · by_cases h35 : c = 35
            · subst h35
              obtain rfl : b0 = true := by simpa using hb
              clear hb hsc h92 h32
              clear hor
              go_wp2_with (go_at_call 37; refine (hsp _).mono ?_; rintro e w' ⟨rfl, hw⟩; obtain rfl := hw.symm)
              go_ret2
              exact ⟨by rw [hR.out]; rfl, hbr⟩
            · exact absurd hb (by simp [h32, h35])
      | zero r h e1 e2 =>
        have hx := at0 _ _ h
        have hR := hide (hC.out.none e1)
        have hsp := fun w => special_any 0 w
        rw [show isSpec 0 = false from rfl] at hsp
        clear e1 e2 h at0 at1 at2 hempty hll hC
        clear hor
        go_wp2_with (go_at_call 37; refine (hsp _).mono ?_; rintro e w' ⟨rfl, hw⟩; obtain rfl := hw.symm)
        go_ret2
        exact ⟨by rw [hR.out]; rfl, hbr⟩
      | one c r h h92 h0 hb e1 e2 =>
        have hx := at0 _ _ h
        have hr : r = l.drop (i + (0 + 1)) := drop_more h 1
        have hnext := hide (hC.out.more c 0 hr e1)
        have hn92 : ((c.toNat : Int) == 92) = false := ne8 (k := 92) (by omega) h92
        have hn0 : ((c.toNat : Int) == 0) = false := ne8 (k := 0) (by omega) h0
        have hsp := fun w => special_any c w
        rw [hempty _ _ h] at hb
        clear e1 e2 h hr at0 at1 at2 hempty hll hC
        unfold isBad at hb
        have hsc : isSpec c = false := by revert hb; cases isSpec c <;> simp
        rw [hsc] at hsp hb
        by_cases h32 : c = 32
        · subst h32
          have hbb : decide (i = 0) = false ∧ decide (i + 1 = s.size) = false := by simpa using hb
          rw [hbb.1] at f0
          rw [hbb.2] at f1
          clear hb hbb hsc h92
          have hone : (wr.alloc (.cells #[.int .u8 32] 5)).ownsRow wr.heap.size 5 1 (.slice (some ⟨wr.heap.size, 0, none⟩) 1 1) 1 (bys [32]) := one8 wr 32
          have hH := Has.own hone
          have hor1 := hor.alloc (.cells #[.int .u8 32] 5)
          have hbr1 := hbr.alloc hbr.size (.cells #[.int .u8 32] 5)
          have hs1 := hbr1.size
          clear hone hor hbr
          go_wp2_with (first
            | (go_at_call 37; refine (hsp _).mono ?_; rintro e w' ⟨rfl, hw⟩; obtain rfl := hw.symm)
            | (at_builtin; go_must (refine app8 _ rfl (.tmp 47) (.tmp 49) rfl w.heap.size _ _ o rfl hor1 _ _ 1 1 [32] rfl hH (by have := hlen.out; omega) hs1 ?_)))
          intro v' w3 hown3 hb3 _
          have hb4 := hbr1.trans hb3
          clear hor1 hbr1 hs1 hH hb3
          go_wp2
          go_roundg (k)
          case measure => omega
          case rel => exact ⟨i + (0 + 1), o ++ [32], by omega, by go_num, by omega, hnext, by simp only [List.length_append, List.length_singleton]; have := hlen.out; omega, by simpa using hown3, hb4⟩
        · have f32 : ((c.toNat : Int) == 32) = false := ne8 (k := 32) (by omega) h32
          by_cases h35 : c = 35
          · subst h35
            have hbb : decide (i = 0) = false := by simpa using hb
            rw [hbb] at f0
            clear hb hbb hsc h92 f1
            have hone : (wr.alloc (.cells #[.int .u8 35] 5)).ownsRow wr.heap.size 5 1 (.slice (some ⟨wr.heap.size, 0, none⟩) 1 1) 1 (bys [35]) := one8 wr 35
            have hH := Has.own hone
            have hor1 := hor.alloc (.cells #[.int .u8 35] 5)
            have hbr1 := hbr.alloc hbr.size (.cells #[.int .u8 35] 5)
            have hs1 := hbr1.size
            clear hone hor hbr
            go_wp2_with (first
              | (go_at_call 37; refine (hsp _).mono ?_; rintro e w' ⟨rfl, hw⟩; obtain rfl := hw.symm)
              | (at_builtin; go_must (refine app8 _ rfl (.tmp 47) (.tmp 49) rfl w.heap.size _ _ o rfl hor1 _ _ 1 1 [35] rfl hH (by have := hlen.out; omega) hs1 ?_)))
            intro v' w3 hown3 hb3 _
            have hb4 := hbr1.trans hb3
            clear hor1 hbr1 hs1 hH hb3
            go_wp2
            go_roundg (k)
            case measure => omega
            case rel => exact ⟨i + (0 + 1), o ++ [35], by omega, by go_num, by omega, hnext, by simp only [List.length_append, List.length_singleton]; have := hlen.out; omega, by simpa using hown3, hb4⟩
          · have f35 : ((c.toNat : Int) == 35) = false := ne8 (k := 35) (by omega) h35
            clear hb hsc h92 f0 f1
            have hone : (wr.alloc (.cells #[.int .u8 (c.toNat : Int)] 5)).ownsRow wr.heap.size 5 1 (.slice (some ⟨wr.heap.size, 0, none⟩) 1 1) 1 (bys [c]) := one8 wr c
            have hH := Has.own hone
            have hor1 := hor.alloc (.cells #[.int .u8 (c.toNat : Int)] 5)
            have hbr1 := hbr.alloc hbr.size (.cells #[.int .u8 (c.toNat : Int)] 5)
            have hs1 := hbr1.size
            clear hone hor hbr
            go_wp2_with (first
              | (go_at_call 37; refine (hsp _).mono ?_; rintro e w' ⟨rfl, hw⟩; obtain rfl := hw.symm)
              | (at_builtin; go_must (refine app8 _ rfl (.tmp 47) (.tmp 49) rfl w.heap.size _ _ o rfl hor1 _ _ 1 1 [c] rfl hH (by have := hlen.out; omega) hs1 ?_)))
            intro v' w3 hown3 hb3 _
            have hb4 := hbr1.trans hb3
            clear hor1 hbr1 hs1 hH hb3
            go_wp2
            go_roundg (k)
            case measure => omega
            case rel => exact ⟨i + (0 + 1), o ++ [c], by omega, by go_num, by omega, hnext, by simp only [List.length_append, List.length_singleton]; have := hlen.out; omega, by simpa using hown3, hb4⟩
      | stop h e1 e2 =>
        have hx := at0 _ _ h
        have hR := hide (hC.out.none e1)
        have h0 := drop_len h (by omega)
        simp only [List.length_cons, List.length_nil] at h0
        have i1 : ¬ ((i : Int) + 1 < (s.size : Int)) := by omega
        have i2 : (s.size : Int) ≤ (i : Int) + 2 := by omega
        clear e1 e2 h h0 at0 at1 at2 hempty hll hC f0 f1
        clear hor
        go_wp2_with (go_at_call 37; refine (hsp _).mono ?_; rintro e w' ⟨rfl, hw⟩; obtain rfl := hw.symm)
        go_ret2
        exact ⟨by rw [hR.out]; rfl, hbr⟩
      | pair d r h hd e1 e2 =>
        have hx := at0 _ _ h
        obtain ⟨hi2, hx1⟩ := at1 _ _ _ h
        have hr : r = l.drop (i + (1 + 1)) := drop_more h 2
        have hnext := hide (hC.out.more d 1 hr e1)
        have hg := get_run s (i + 1) d hi2 hx1 ((i : Int) + 1) (by omega)
        have i1 : (i : Int) + 1 < (s.size : Int) := by omega
        have hsp := fun w => special_any d w
        clear e1 e2 h hr at0 at1 at2 hempty hll hC f0 f1
        cases hsc : isSpec d with
        | true =>
          rw [hsc] at hsp
          clear hd hsc
          have hone : (wr.alloc (.cells #[.int .u8 (d.toNat : Int)] 5)).ownsRow wr.heap.size 5 1 (.slice (some ⟨wr.heap.size, 0, none⟩) 1 1) 1 (bys [d]) := one8 wr d
          have hH := Has.own hone
          have hor1 := hor.alloc (.cells #[.int .u8 (d.toNat : Int)] 5)
          have hbr1 := hbr.alloc hbr.size (.cells #[.int .u8 (d.toNat : Int)] 5)
          have hs1 := hbr1.size
          clear hone hor hbr
          go_wp2_with (first
            | (go_at_call 37; refine (hsp _).mono ?_; rintro e w' ⟨rfl, hw⟩; obtain rfl := hw.symm)
            | (at_builtin; go_must (refine app8 _ rfl (.tmp 86) (.tmp 90) rfl w.heap.size _ _ o rfl hor1 _ _ 1 1 [d] rfl hH (by have := hlen.out; omega) hs1 ?_)))
          intro v' w3 hown3 hb3 _
          have hb4 := hbr1.trans hb3
          clear hor1 hbr1 hs1 hH hb3
          go_wp2
          go_roundg (k - 1)
          case measure => omega
          case rel => exact ⟨i + (1 + 1), o ++ [d], by omega, by go_num, by omega, hnext, by simp only [List.length_append, List.length_singleton]; have := hlen.out; omega, by simpa using hown3, hb4⟩
        | false =>
          rw [hsc] at hsp
          have hdd : d = 35 ∨ d = 61 ∨ d = 32 := by
            unfold isBehind at hd
            rw [hsc] at hd
            simp only [Bool.false_or, Bool.or_eq_true, beq_iff_eq] at hd
            rcases hd with (h | h) | h
            · exact Or.inl h
            · exact Or.inr (Or.inl h)
            · exact Or.inr (Or.inr h)
          clear hd hsc
          rcases hdd with rfl | rfl | rfl
          · have hone : (wr.alloc (.cells #[.int .u8 35] 5)).ownsRow wr.heap.size 5 1 (.slice (some ⟨wr.heap.size, 0, none⟩) 1 1) 1 (bys [35]) := one8 wr 35
            have hH := Has.own hone
            have hor1 := hor.alloc (.cells #[.int .u8 35] 5)
            have hbr1 := hbr.alloc hbr.size (.cells #[.int .u8 35] 5)
            have hs1 := hbr1.size
            clear hone hor hbr
            go_wp2_with (first
              | (go_at_call 37; refine (hsp _).mono ?_; rintro e w' ⟨rfl, hw⟩; obtain rfl := hw.symm)
              | (at_builtin; go_must (refine app8 _ rfl (.tmp 86) (.tmp 90) rfl w.heap.size _ _ o rfl hor1 _ _ 1 1 [35] rfl hH (by have := hlen.out; omega) hs1 ?_)))
            intro v' w3 hown3 hb3 _
            have hb4 := hbr1.trans hb3
            clear hor1 hbr1 hs1 hH hb3
            go_wp2
            go_roundg (k - 1)
            case measure => omega
            case rel => exact ⟨i + (1 + 1), o ++ [35], by omega, by go_num, by omega, hnext, by simp only [List.length_append, List.length_singleton]; have := hlen.out; omega, by simpa using hown3, hb4⟩
          · have hone : (wr.alloc (.cells #[.int .u8 61] 5)).ownsRow wr.heap.size 5 1 (.slice (some ⟨wr.heap.size, 0, none⟩) 1 1) 1 (bys [61]) := one8 wr 61
            have hH := Has.own hone
            have hor1 := hor.alloc (.cells #[.int .u8 61] 5)
            have hbr1 := hbr.alloc hbr.size (.cells #[.int .u8 61] 5)
            have hs1 := hbr1.size
            clear hone hor hbr
            go_wp2_with (first
              | (go_at_call 37; refine (hsp _).mono ?_; rintro e w' ⟨rfl, hw⟩; obtain rfl := hw.symm)
              | (at_builtin; go_must (refine app8 _ rfl (.tmp 86) (.tmp 90) rfl w.heap.size _ _ o rfl hor1 _ _ 1 1 [61] rfl hH (by have := hlen.out; omega) hs1 ?_)))
            intro v' w3 hown3 hb3 _
            have hb4 := hbr1.trans hb3
            clear hor1 hbr1 hs1 hH hb3
            go_wp2
            go_roundg (k - 1)
            case measure => omega
            case rel => exact ⟨i + (1 + 1), o ++ [61], by omega, by go_num, by omega, hnext, by simp only [List.length_append, List.length_singleton]; have := hlen.out; omega, by simpa using hown3, hb4⟩
          · have hone : (wr.alloc (.cells #[.int .u8 32] 5)).ownsRow wr.heap.size 5 1 (.slice (some ⟨wr.heap.size, 0, none⟩) 1 1) 1 (bys [32]) := one8 wr 32
            have hH := Has.own hone
            have hor1 := hor.alloc (.cells #[.int .u8 32] 5)
            have hbr1 := hbr.alloc hbr.size (.cells #[.int .u8 32] 5)
            have hs1 := hbr1.size
            clear hone hor hbr
            go_wp2_with (first
              | (go_at_call 37; refine (hsp _).mono ?_; rintro e w' ⟨rfl, hw⟩; obtain rfl := hw.symm)
              | (at_builtin; go_must (refine app8 _ rfl (.tmp 86) (.tmp 90) rfl w.heap.size _ _ o rfl hor1 _ _ 1 1 [32] rfl hH (by have := hlen.out; omega) hs1 ?_)))
            intro v' w3 hown3 hb3 _
            have hb4 := hbr1.trans hb3
            clear hor1 hbr1 hs1 hH hb3
            go_wp2
            go_roundg (k - 1)
            case measure => omega
            case rel => exact ⟨i + (1 + 1), o ++ [32], by omega, by go_num, by omega, hnext, by simp only [List.length_append, List.length_singleton]; have := hlen.out; omega, by simpa using hown3, hb4⟩
      | half d h hd e1 e2 =>
        have hx := at0 _ _ h
        obtain ⟨hi2, hx1⟩ := at1 _ _ _ h
        have hR := hide (hC.out.none e1)
        have h0 := drop_len h (by omega)
        simp only [List.length_cons, List.length_nil] at h0
        have hg := get_run s (i + 1) d hi2 hx1 ((i : Int) + 1) (by omega)
        have i1 : (i : Int) + 1 < (s.size : Int) := by omega
        have i2 : (s.size : Int) ≤ (i : Int) + 2 := by omega
        have hsc : isSpec d = false := by unfold isBehind at hd; revert hd; cases isSpec d <;> simp
        have n35 : ((d.toNat : Int) == 35) = false := ne8 (k := 35) (by omega) (by rintro rfl; cases hd)
        have n61 : ((d.toNat : Int) == 61) = false := ne8 (k := 61) (by omega) (by rintro rfl; cases hd)
        have n32 : ((d.toNat : Int) == 32) = false := ne8 (k := 32) (by omega) (by rintro rfl; cases hd)
        have hsp := fun w => special_any d w
        rw [hsc] at hsp
        clear e1 e2 h h0 hd hsc at0 at1 at2 hempty hll hC f0 f1
        clear hor
        go_wp2_with (go_at_call 37; refine (hsp _).mono ?_; rintro e w' ⟨rfl, hw⟩; obtain rfl := hw.symm)
        go_ret2
        exact ⟨by rw [hR.out]; rfl, hbr⟩
      | nohex d e r h hd hn e1 e2 =>
        have hx := at0 _ _ h
        obtain ⟨hi2, hx1⟩ := at1 _ _ _ h
        obtain ⟨hi3, hx2⟩ := at2 _ _ _ _ h
        have hR := hide (hC.out.none e1)
        have hg := get_run s (i + 1) d hi2 hx1 ((i : Int) + 1) (by omega)
        have hg2 := get_run s (i + 2) e hi3 hx2 ((i : Int) + 2) (by omega)
        have i1 : (i : Int) + 1 < (s.size : Int) := by omega
        have i2 : ¬ ((s.size : Int) ≤ (i : Int) + 2) := by omega
        have hsc : isSpec d = false := by unfold isBehind at hd; revert hd; cases isSpec d <;> simp
        have n35 : ((d.toNat : Int) == 35) = false := ne8 (k := 35) (by omega) (by rintro rfl; cases hd)
        have n61 : ((d.toNat : Int) == 61) = false := ne8 (k := 61) (by omega) (by rintro rfl; cases hd)
        have n32 : ((d.toNat : Int) == 32) = false := ne8 (k := 32) (by omega) (by rintro rfl; cases hd)
        have hsp := fun w => special_any d w
        rw [hsc] at hsp
        have hD := fun w => hex_any d w
        have hE := fun w => hex_any e w
        clear e1 e2 h hd hsc at0 at1 at2 hempty hll hC f0 f1
        cases hdv : hexV d with
        | none =>
          rw [hexI_none hdv] at hD
          clear hE hdv hn
          clear hor
          go_wp2_with (first
            | (go_at_call 37; refine (hsp _).mono ?_; rintro e w' ⟨rfl, hw⟩; obtain rfl := hw.symm)
            | (go_at_call 70; fail))
          refine (hD _).mono ?_
          rintro e w' ⟨rfl, hw⟩
          obtain rfl := hw.symm
          clear hD
          go_wp2
          go_ret2
          exact ⟨by rw [hR.out]; rfl, hbr⟩
        | some a =>
          have hev : hexV e = none := by rcases hn with hn | hn; (· rw [hn] at hdv; cases hdv); exact hn
          rw [hexI_some hdv] at hD
          rw [hexI_none hev] at hE
          have ha0 : ¬ ((a : Int) < 0) := by omega
          clear hdv hev hn hor
          go_wp2_with (first
            | (go_at_call 37; refine (hsp _).mono ?_; rintro e w' ⟨rfl, hw⟩; obtain rfl := hw.symm)
            | (go_at_call 70; fail))
          refine (hD _).mono ?_
          rintro e w' ⟨rfl, hw⟩
          obtain rfl := hw.symm
          go_wp2_with (go_at_call 70; fail)
          refine (hE _).mono ?_
          rintro e w' ⟨rfl, hw⟩
          obtain rfl := hw.symm
          go_wp2
          go_ret2
          exact ⟨by rw [hR.out]; rfl, hbr⟩
      | hex d e a b r h hd ha hb e1 e2 =>
        have hx := at0 _ _ h
        obtain ⟨hi2, hx1⟩ := at1 _ _ _ h
        obtain ⟨hi3, hx2⟩ := at2 _ _ _ _ h
        have hr : r = l.drop (i + (2 + 1)) := drop_more h 3
        have hnext := hide (hC.out.more _ 2 hr e1)
        have hg := get_run s (i + 1) d hi2 hx1 ((i : Int) + 1) (by omega)
        have hg2 := get_run s (i + 2) e hi3 hx2 ((i : Int) + 2) (by omega)
        have i1 : (i : Int) + 1 < (s.size : Int) := by omega
        have i2 : ¬ ((s.size : Int) ≤ (i : Int) + 2) := by omega
        have hsc : isSpec d = false := by unfold isBehind at hd; revert hd; cases isSpec d <;> simp
        have n35 : ((d.toNat : Int) == 35) = false := ne8 (k := 35) (by omega) (by rintro rfl; cases hd)
        have n61 : ((d.toNat : Int) == 61) = false := ne8 (k := 61) (by omega) (by rintro rfl; cases hd)
        have n32 : ((d.toNat : Int) == 32) = false := ne8 (k := 32) (by omega) (by rintro rfl; cases hd)
        have hsp := fun w => special_any d w
        rw [hsc] at hsp
        have hD := fun w => hex_any d w
        have hE := fun w => hex_any e w
        rw [hexI_some ha] at hD
        rw [hexI_some hb] at hE
        have ha16 := hexV_lt ha
        have hb16 := hexV_lt hb
        have ha0 : ¬ ((a : Int) < 0) := by omega
        have hb0 : ¬ ((b : Int) < 0) := by omega
        have hy : Hid (((UInt8.ofNat (16 * a + b)).toNat : Int) = 16 * (a : Int) + (b : Int)) := hide (by rw [UInt8.toNat_ofNat']; omega)
        have wr1 : IntKind.i64.wrap ((i : Int) + 1) = (i : Int) + 1 := wrap_in _ (by omega) (by omega)
        have wr2 : IntKind.i64.wrap ((i : Int) + 2) = (i : Int) + 2 := wrap_in _ (by omega) (by omega)
        have wr3 : IntKind.i64.wrap (16 * (a : Int)) = 16 * (a : Int) := wrap_in _ (by omega) (by omega)
        have wr4 : IntKind.i64.wrap (16 * (a : Int) + (b : Int)) = 16 * (a : Int) + (b : Int) := wrap_in _ (by omega) (by omega)
        have hy8 : IntKind.u8.wrap (16 * (a : Int) + (b : Int)) = ((UInt8.ofNat (16 * a + b)).toNat : Int) := by
          rw [hy.out]
          simp [IntKind.wrap, IntKind.bits, IntKind.signed]
          omega
        generalize UInt8.ofNat (16 * a + b) = y at *
        clear e1 e2 h hd hsc hr ha hb at0 at1 at2 hempty hll hC f0 f1
        go_wp2_with (first
          | (go_at_call 37; refine (hsp _).mono ?_; rintro e w' ⟨rfl, hw⟩; obtain rfl := hw.symm)
          | (go_at_call 70; fail))
        refine (hD _).mono ?_
        rintro e w' ⟨rfl, hw⟩
        obtain rfl := hw.symm
        go_wp2_with (go_at_call 70; fail)
        refine (hE _).mono ?_
        rintro e w' ⟨rfl, hw⟩
        obtain rfl := hw.symm
        go_wp2_with fail
        refine grow_begin_at w.heap.size (by kernel_rfl) ?_
        have hbr0 : Below w.heap.size w wr.drew := hbr.trans ((Below.refl _ _).drew)
        have hor0 := own_below hor (Below.refl wr.heap.size wr).drew
        have hs0 := hbr0.size
        clear hor hbr
        generalize wr.drew = a0 at *
        refine grow_take 0 (some 113) (v := ?va0) rfl rfl (by kernel_rfl) (by kernel_rfl) (by kernel_rfl) (fun _ _ _ h => h) (by rfl) (fun W hW => ?ya0) ?_
        case ya0 =>
          go_simp <;> with_reducible rfl
        simp only [Act.put, List.setIfInBounds_toArray, List.set_cons_zero, List.set_cons_succ]
        refine grow_take 1 (some 114) (v := ?va1) rfl rfl (by kernel_rfl) (by kernel_rfl) (by kernel_rfl) (fun _ _ _ h => h) (by rfl) (fun W hW => ?ya1) ?_
        case ya1 =>
          go_simp <;> with_reducible rfl
        simp only [Act.put, List.setIfInBounds_toArray, List.set_cons_zero, List.set_cons_succ]
        refine grow_take 2 (some 115) (v := ?va2) rfl rfl (by kernel_rfl) (by kernel_rfl) (by kernel_rfl) (fun _ _ _ h => h) (by rfl) (fun W hW => ?ya2) ?_
        case ya2 =>
          go_simp <;> with_reducible rfl
        simp only [Act.put, List.setIfInBounds_toArray, List.set_cons_zero, List.set_cons_succ]
        refine grow_take 3 (some 116) (v := ?va3) rfl rfl (by kernel_rfl) (by kernel_rfl) (by kernel_rfl) (fun _ _ _ h => h) (by rfl) (fun W hW => ?ya3) ?_
        case ya3 =>
          have h1 := wr1
          go_simp <;> with_reducible rfl
        simp only [Act.put, List.setIfInBounds_toArray, List.set_cons_zero, List.set_cons_succ]
        refine grow_take 4 (some 117) (v := ?va4) rfl rfl (by kernel_rfl) (by kernel_rfl) (by kernel_rfl) (fun _ _ _ h => h) (by rfl) (fun W hW => ?ya4) ?_
        case ya4 =>
          have h1 := hg W
          go_simp <;> with_reducible rfl
        simp only [Act.put, List.setIfInBounds_toArray, List.set_cons_zero, List.set_cons_succ]
        refine grow_take 7 (some 120) (v := ?va7) rfl rfl (by kernel_rfl) (by kernel_rfl) (by kernel_rfl) (fun _ _ _ h => h) (by rfl) (fun W hW => ?ya7) ?_
        case ya7 =>
          go_simp <;> with_reducible rfl
        simp only [Act.put, List.setIfInBounds_toArray, List.set_cons_zero, List.set_cons_succ]
        refine grow_take 8 (some 121) (v := ?va8) rfl rfl (by kernel_rfl) (by kernel_rfl) (by kernel_rfl) (fun _ _ _ h => h) (by rfl) (fun W hW => ?ya8) ?_
        case ya8 =>
          go_simp <;> with_reducible rfl
        simp only [Act.put, List.setIfInBounds_toArray, List.set_cons_zero, List.set_cons_succ]
        refine grow_take 9 (some 122) (v := ?va9) rfl rfl (by kernel_rfl) (by kernel_rfl) (by kernel_rfl) (fun _ _ _ h => h) (by rfl) (fun W hW => ?ya9) ?_
        case ya9 =>
          have h1 := wr2
          go_simp <;> with_reducible rfl
        simp only [Act.put, List.setIfInBounds_toArray, List.set_cons_zero, List.set_cons_succ]
        refine grow_take 10 (some 123) (v := ?va10) rfl rfl (by kernel_rfl) (by kernel_rfl) (by kernel_rfl) (fun _ _ _ h => h) (by rfl) (fun W hW => ?ya10) ?_
        case ya10 =>
          have h1 := hg2 W
          go_simp <;> with_reducible rfl
        simp only [Act.put, List.setIfInBounds_toArray, List.set_cons_zero, List.set_cons_succ]
        refine grow_only 5 rfl (by kernel_rfl) (fun K hK => ?_)
        go_simp
        refine (hD _).mono ?_
        rintro e w2 ⟨rfl, hw⟩
        obtain rfl := hw.symm
        refine hK.out _ _ (Below.refl _ _) ?_
        clear hK K
        try simp only [Act.put, List.setIfInBounds_toArray, List.set_cons_zero, List.set_cons_succ]
        refine grow_take 6 (some 119) (v := ?va6) rfl rfl (by kernel_rfl) (by kernel_rfl) (by kernel_rfl) (fun _ _ _ h => h) (by rfl) (fun W hW => ?ya6) ?_
        case ya6 =>
          have h1 := wr3
          go_simp <;> with_reducible rfl
        simp only [Act.put, List.setIfInBounds_toArray, List.set_cons_zero, List.set_cons_succ]
        refine grow_only 11 rfl (by kernel_rfl) (fun K hK => ?_)
        go_simp
        refine (hE _).mono ?_
        rintro e w2 ⟨rfl, hw⟩
        obtain rfl := hw.symm
        refine hK.out _ _ (Below.refl _ _) ?_
        clear hK K
        try simp only [Act.put, List.setIfInBounds_toArray, List.set_cons_zero, List.set_cons_succ]
        refine grow_take 12 (some 125) (v := ?va12) rfl rfl (by kernel_rfl) (by kernel_rfl) (by kernel_rfl) (fun _ _ _ h => h) (by rfl) (fun W hW => ?ya12) ?_
        case ya12 =>
          have h1 := wr4
          go_simp <;> with_reducible rfl
        simp only [Act.put, List.setIfInBounds_toArray, List.set_cons_zero, List.set_cons_succ]
        refine grow_take 13 (some 126) (v := ?va13) rfl rfl (by kernel_rfl) (by kernel_rfl) (by kernel_rfl) (fun _ _ _ h => h) (by rfl) (fun W hW => ?ya13) ?_
        case ya13 =>
          have h1 := hy8
          go_simp <;> with_reducible rfl
        simp only [Act.put, List.setIfInBounds_toArray, List.set_cons_zero, List.set_cons_succ]
        refine grow_only 14 rfl (by kernel_rfl) (fun K hK => ?_)
        go_simp
        have hb1 : Below w.heap.size a0 (a0.alloc (.cells #[.int .u8 (y.toNat : Int)] 5)) := (Below.refl _ _).alloc hs0 _
        have hone : (a0.alloc (.cells #[.int .u8 (y.toNat : Int)] 5)).ownsRow a0.heap.size 5 1 (.slice (some ⟨a0.heap.size, 0, none⟩) 1 1) 1 (bys [y]) := one8 a0 y
        have hH := Has.own hone
        have hor1 := hor0.alloc (.cells #[.int .u8 (y.toNat : Int)] 5)
        have hba := hbr0.trans hb1
        have hs1 := hba.size
        clear hone hor0 hbr0
        refine hK.out _ _ hb1 ?_
        clear hK K hb1
        try simp only [Act.put, List.setIfInBounds_toArray, List.set_cons_zero, List.set_cons_succ]
        refine grow_only 15 rfl (by kernel_rfl) (fun K hK => ?_)
        refine step8 _ (some 128) rfl rfl (.tmp 113) (.tmp 127) rfl w.heap.size _ _ o rfl hor1 _ _ 1 1 [y] rfl hH (by have := hlen.out; omega) hs1 ?_
        intro v' w3 hown3 hb3 _ _
        have hb4 := hba.trans hb3
        refine hK.out _ _ hb3 ?_
        clear hK K hor1 hba hs1 hH hb3
        try simp only [Act.put, List.setIfInBounds_toArray, List.set_cons_zero, List.set_cons_succ]
        refine grow_take 16 (some 4) (v := ?va16) rfl rfl (by kernel_rfl) (by kernel_rfl) (by kernel_rfl) (fun _ _ _ h => h) (by rfl) (fun W hW => ?ya16) ?_
        case ya16 =>
          go_simp <;> with_reducible rfl
        simp only [Act.put, List.setIfInBounds_toArray, List.set_cons_zero, List.set_cons_succ]
        refine grow_done (by kernel_rfl) ?_ _
        go_wp2
        go_roundg (k - 2)
        case measure => omega
        case rel => exact ⟨i + (2 + 1), o ++ [y], by omega, by go_num, by omega, hnext, by simp only [List.length_append, List.length_singleton]; have := hlen.out; omega, by simpa using hown3, hb4⟩

end Go.Proofs.YtihoachcpabkeaaGreatDoor
