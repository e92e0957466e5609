/-
  The reference's Integer. By an AI agent.
-/
import Derived.Test.YtedenhfpbabjkaaGreatDoorRIntMath
import Derived.Test.YtedenhfpbabjkaaGreatDoorRInt
import Derived.Test.YtedenhfpbabjkaaGreatDoorRefNum
namespace Go.Proofs.YtedenhfpbabjkaaGreatDoor
open Go.RowKit
set_option linter.unusedVariables false

/-- What Integer answers. -/
structure IntPost (s : ByteArray) (w : World) (e : Ending) (w' : World) : Prop where
  out : ∃ (n : Int) (ok : Bool), e = .returned (.tuple #[.int .i64 n, .bool ok]) ∧ (ok = false → n = 0) ∧ intR s.data.toList = (if ok then some n else none) ∧ w' = w

theorem dec_bound18 {l : List UInt8} {n : Nat} (h : Lib.decFrom 0 l = some n) (hl : l.length ≤ 18) : n ≤ 999999999999999999 := by
  have := Lib.decFrom_lt18 h hl
  omega

set_option maxRecDepth 100000 in
set_option maxHeartbeats 8000000 in
theorem rinteger_empty (s : ByteArray) (h : s.size = 0) (w : World) :
    Calls Tryz.prog 24 #[.string s] w (IntPost s w) := by
  have hnone : intR s.data.toList = none := by
    have h1 := Lib.size_eq s
    have h2 : s.data.toList = [] := List.length_eq_zero_iff.1 (by omega)
    rw [h2]; rfl
  have h0 : (s.size : Int) = 0 := by omega
  go_enter Tryz.func24, Tryz.ntmps24
  go_wp2
  go_ret2
  exact ⟨0, false, rfl, fun _ => rfl, hnone, rfl⟩


set_option maxRecDepth 100000 in
set_option maxHeartbeats 8000000 in
theorem rinteger_plain (s : ByteArray) (b : UInt8) (r : List UInt8) (h : s.data.toList = b :: r) (e45 : ((b.toNat : Int) == 45) = false) (w : World) :
    Calls Tryz.prog 24 #[.string s] w (IntPost s w) := by
  have hsz := Lib.size_eq s
  rw [h] at hsz
  have hs0 : 0 < s.size := by rw [hsz]; simp
  have hs1 : (0 : Int) < (s.size : Int) := by omega
  have hb0 : s[0]'hs0 = b := by
    have h1 := Lib.data_getElem? s 0 hs0
    rw [h] at h1
    exact (Option.some.inj h1).symm
  have hne : b ≠ 45 := by
    rintro rfl
    simp at e45
  have hint0 : Hid (intR s.data.toList = if 18 < (b :: r).length ∨ (b = 48 ∧ 1 < (b :: r).length) then none else (Lib.decFrom 0 (b :: r)).map fun (n : Nat) => (n : Int)) := by
    refine hide ?_
    rw [h]
    unfold intR
    simp [hne]
  have hSL : Hid (s.size = (b :: r).length) := hide hsz
  have hL : Hid ((b :: r) = s.data.toList) := hide h.symm
  clear h hsz hne
  have h1 : ¬ ((s.size : Int) < 1) := by omega
  go_enter Tryz.func24, Tryz.ntmps24
  by_cases hN9 : 18 < s.size
  · have h2 : ((18 : Int) < (s.size : Int)) := by omega
    have hnone : intR s.data.toList = none := by rw [hint0.out, if_pos (Or.inl (by rw [← hSL.out]; exact hN9))]
    go_wp2
    go_ret2
    exact ⟨0, false, rfl, fun _ => rfl, hnone, rfl⟩
  · have h2 : ¬ ((18 : Int) < (s.size : Int)) := by omega
    by_cases h48 : b = 48
    · subst h48
      have e48 : (((48 : UInt8).toNat : Int) == 48) = true := rfl
      by_cases hN1 : 1 < s.size
      · have h3 : ((1 : Int) < (s.size : Int)) := by omega
        have hnone : intR s.data.toList = none := by rw [hint0.out, if_pos (Or.inr ⟨rfl, by rw [← hSL.out]; exact hN1⟩)]
        go_wp2
        go_ret2
        exact ⟨0, false, rfl, fun _ => rfl, hnone, rfl⟩
      · have h3 : ¬ ((1 : Int) < (s.size : Int)) := by omega
        have hint : Hid (intR s.data.toList = (Lib.decFrom 0 (48 :: r)).map fun (n : Nat) => (n : Int)) := hide (by rw [hint0.out, if_neg]; rw [← hSL.out]; omega)
        clear hint0
        go_wp2
        go_loopg [6, 7] s.size (fun g s6 s7 wx => ∃ (i n : Nat), i + g = s.size ∧ s6 = .int .i64 (n : Int) ∧ s7 = .int .i64 (i : Int) ∧ wx = w ∧ Hid (Lib.decFrom 0 ((48 :: r).take i) = some n) ∧ n ≤ 999999999999999999)
        case atStart => exact ⟨0, 0, by omega, rfl, rfl, rfl, hide rfl, by omega⟩
        case round =>
          obtain ⟨i, n, hig, rfl, rfl, rfl, hdec, hn9⟩ := hrel
          cases gk with
          | zero =>
            obtain rfl : i = s.size := by omega
            have hiz : ¬ ((s.size : Int) < (s.size : Int)) := by omega
            have hd : Lib.decFrom 0 (48 :: r) = some n := by
              have := hdec.out
              rw [List.take_of_length_le (by rw [← hSL.out]; exact Nat.le_refl _)] at this
              exact this
            have hsome : intR s.data.toList = some ((n : Int)) := by rw [hint.out, hd]; rfl
            replace hsome := hide hsome
            go_wp2
            go_ret2
            exact ⟨(n : Int), true, rfl, fun h => (by cases h), hsome.out, rfl⟩
          | succ g =>
            have hi : i < s.size := by omega
            have hiz : (i : Int) < (s.size : Int) := by omega
            obtain ⟨x, hx⟩ : ∃ x : UInt8, s[i]'hi = x := ⟨_, rfl⟩
            have hxl : (48 :: r)[i]? = some x := by rw [hL.out, ← hx]; exact Lib.data_getElem? s i hi
            have Hx := hide hxl
            clear hxl
            by_cases hd1 : (x.toNat : Int) < 48
            · have hnone : intR s.data.toList = none := by
                rw [hint.out, dec_none _ 0 i x Hx.out (by unfold Lib.digitVal; rw [if_neg (by omega)])]; rfl
              replace hnone := hide hnone
              go_wp2
              go_ret2
              exact ⟨0, false, rfl, fun _ => rfl, hnone.out, rfl⟩
            · by_cases hd2 : (57 : Int) < (x.toNat : Int)
              · have hnone : intR s.data.toList = none := by
                  rw [hint.out, dec_none _ 0 i x Hx.out (by unfold Lib.digitVal; rw [if_neg (by omega)])]; rfl
                replace hnone := hide hnone
                go_wp2
                go_ret2
                exact ⟨0, false, rfl, fun _ => rfl, hnone.out, rfl⟩
              · have hv : Lib.digitVal x = some (x.toNat - 48) := by unfold Lib.digitVal; rw [if_pos (by omega)]
                have hdn := Lib.decFrom_take (48 :: r) i 0 n x (x.toNat - 48) hdec.out Hx.out hv
                have hb9 := dec_bound18 hdn (by rw [List.length_take]; omega)
                replace hdn := hide hdn
                go_wp2
                go_roundg g
                case measure => omega
                case rel => exact ⟨i + 1, n * 10 + (x.toNat - 48), by omega, by go_num, by go_num, rfl, hdn, hb9⟩
    · have e48 : ((b.toNat : Int) == 48) = false := beq_false_of_ne (fun e => h48 (u8_ext (by have : (48 : UInt8).toNat = 48 := rfl; omega)))
      have hint : Hid (intR s.data.toList = (Lib.decFrom 0 (b :: r)).map fun (n : Nat) => (n : Int)) := hide (by rw [hint0.out, if_neg]; rw [← hSL.out]; rintro (h | h); omega; exact h48 h.1)
      clear hint0
      go_wp2
      go_loopg [6, 7] s.size (fun g s6 s7 wx => ∃ (i n : Nat), i + g = s.size ∧ s6 = .int .i64 (n : Int) ∧ s7 = .int .i64 (i : Int) ∧ wx = w ∧ Hid (Lib.decFrom 0 ((b :: r).take i) = some n) ∧ n ≤ 999999999999999999)
      case atStart => exact ⟨0, 0, by omega, rfl, rfl, rfl, hide rfl, by omega⟩
      case round =>
        obtain ⟨i, n, hig, rfl, rfl, rfl, hdec, hn9⟩ := hrel
        cases gk with
        | zero =>
          obtain rfl : i = s.size := by omega
          have hiz : ¬ ((s.size : Int) < (s.size : Int)) := by omega
          have hd : Lib.decFrom 0 (b :: r) = some n := by
            have := hdec.out
            rw [List.take_of_length_le (by rw [← hSL.out]; exact Nat.le_refl _)] at this
            exact this
          have hsome : intR s.data.toList = some ((n : Int)) := by rw [hint.out, hd]; rfl
          replace hsome := hide hsome
          go_wp2
          go_ret2
          exact ⟨(n : Int), true, rfl, fun h => (by cases h), hsome.out, rfl⟩
        | succ g =>
          have hi : i < s.size := by omega
          have hiz : (i : Int) < (s.size : Int) := by omega
          obtain ⟨x, hx⟩ : ∃ x : UInt8, s[i]'hi = x := ⟨_, rfl⟩
          have hxl : (b :: r)[i]? = some x := by rw [hL.out, ← hx]; exact Lib.data_getElem? s i hi
          have Hx := hide hxl
          clear hxl
          by_cases hd1 : (x.toNat : Int) < 48
          · have hnone : intR s.data.toList = none := by
              rw [hint.out, dec_none _ 0 i x Hx.out (by unfold Lib.digitVal; rw [if_neg (by omega)])]; rfl
            replace hnone := hide hnone
            go_wp2
            go_ret2
            exact ⟨0, false, rfl, fun _ => rfl, hnone.out, rfl⟩
          · by_cases hd2 : (57 : Int) < (x.toNat : Int)
            · have hnone : intR s.data.toList = none := by
                rw [hint.out, dec_none _ 0 i x Hx.out (by unfold Lib.digitVal; rw [if_neg (by omega)])]; rfl
              replace hnone := hide hnone
              go_wp2
              go_ret2
              exact ⟨0, false, rfl, fun _ => rfl, hnone.out, rfl⟩
            · have hv : Lib.digitVal x = some (x.toNat - 48) := by unfold Lib.digitVal; rw [if_pos (by omega)]
              have hdn := Lib.decFrom_take (b :: r) i 0 n x (x.toNat - 48) hdec.out Hx.out hv
              have hb9 := dec_bound18 hdn (by rw [List.length_take]; omega)
              replace hdn := hide hdn
              go_wp2
              go_roundg g
              case measure => omega
              case rel => exact ⟨i + 1, n * 10 + (x.toNat - 48), by omega, by go_num, by go_num, rfl, hdn, hb9⟩

set_option maxRecDepth 100000 in
set_option maxHeartbeats 8000000 in
theorem rinteger_minus (s : ByteArray) (b : UInt8) (r : List UInt8) (h : s.data.toList = b :: r) (e45 : b = 45) (w : World) :
    Calls Tryz.prog 24 #[.string s] w (IntPost s w) := by
  have hsz := Lib.size_eq s
  rw [h] at hsz
  have hs0 : 0 < s.size := by rw [hsz]; simp
  have hs1 : (0 : Int) < (s.size : Int) := by omega
  have hb0 : s[0]'hs0 = b := by
    have h1 := Lib.data_getElem? s 0 hs0
    rw [h] at h1
    exact (Option.some.inj h1).symm
  subst e45
  have hint0 : Hid (intR s.data.toList = if r.length < 1 ∨ 18 < r.length ∨ r.head? = some 48 then none else (Lib.decFrom 0 r).map fun (n : Nat) => -(n : Int)) := by
    refine hide ?_
    rw [h]
    unfold intR
    simp
  have hXl : (s.extract 1 s.size).data.toList = r := by rw [drop_bytes, h]; rfl
  have hXs : (s.extract 1 s.size).size = s.size - 1 := by rw [ByteArray.size_extract]; omega
  have hSL : (s.extract 1 s.size).size = r.length := by rw [Lib.size_eq, hXl]
  have hs2 : (1 : Int) ≤ (s.size : Int) := by omega
  have hn1 : ((1 : Int)).toNat = 1 := rfl
  generalize hX : s.extract 1 s.size = X at *
  replace hSL := hide hSL
  replace hXl := hXl.symm
  have hL : Hid (r = X.data.toList) := hide hXl
  clear h hsz hXl hXs
  go_enter Tryz.func24, Tryz.ntmps24
  by_cases hN1 : X.size < 1
  · have h1 : ((X.size : Int) < 1) := by omega
    have hnone : intR s.data.toList = none := by rw [hint0.out, if_pos (Or.inl (by rw [← hSL.out]; exact hN1))]
    go_wp2
    go_ret2
    exact ⟨0, false, rfl, fun _ => rfl, hnone, rfl⟩
  · have h1 : ¬ ((X.size : Int) < 1) := by omega
    have hX0 : 0 < X.size := by omega
    have hX1 : (0 : Int) < (X.size : Int) := by omega
    obtain ⟨c, hc⟩ : ∃ c : UInt8, X[0]'hX0 = c := ⟨_, rfl⟩
    have hhead : Hid (r.head? = some c) := hide (by
      have := Lib.data_getElem? X 0 hX0
      rw [← hL.out, hc] at this
      rw [List.head?_eq_getElem?]; exact this)
    by_cases hN9 : 18 < X.size
    · have h2 : ((18 : Int) < (X.size : Int)) := by omega
      have hnone : intR s.data.toList = none := by rw [hint0.out, if_pos (Or.inr (Or.inl (by rw [← hSL.out]; exact hN9)))]
      go_wp2
      go_ret2
      exact ⟨0, false, rfl, fun _ => rfl, hnone, rfl⟩
    · have h2 : ¬ ((18 : Int) < (X.size : Int)) := by omega
      by_cases h48 : c = 48
      · subst h48
        have e48 : (((48 : UInt8).toNat : Int) == 48) = true := rfl
        have hnone : intR s.data.toList = none := by rw [hint0.out, if_pos (Or.inr (Or.inr hhead.out))]
        clear hint0 hhead
        by_cases hN2 : 1 < X.size
        · have h3 : ((1 : Int) < (X.size : Int)) := by omega
          go_wp2
          go_ret2
          exact ⟨0, false, rfl, fun _ => rfl, hnone, rfl⟩
        · have h3 : ¬ ((1 : Int) < (X.size : Int)) := by omega
          go_wp2
          go_ret2
          exact ⟨0, false, rfl, fun _ => rfl, hnone, rfl⟩
      · have e48 : ((c.toNat : Int) == 48) = false := beq_false_of_ne (fun e => h48 (u8_ext (by have : (48 : UInt8).toNat = 48 := rfl; omega)))
        have hint : Hid (intR s.data.toList = (Lib.decFrom 0 r).map fun (n : Nat) => -(n : Int)) := hide (by
          rw [hint0.out, if_neg]
          rw [hhead.out, ← hSL.out]
          rintro (h | h | h)
          · omega
          · omega
          · exact h48 (Option.some.inj h))
        clear hint0 hhead
        go_wp2
        go_loopg [6, 7] X.size (fun g s6 s7 wx => ∃ (i n : Nat), i + g = X.size ∧ s6 = .int .i64 (n : Int) ∧ s7 = .int .i64 (i : Int) ∧ wx = w ∧ Hid (Lib.decFrom 0 (r.take i) = some n) ∧ n ≤ 999999999999999999)
        case atStart => exact ⟨0, 0, by omega, rfl, rfl, rfl, hide rfl, by omega⟩
        case round =>
          obtain ⟨i, n, hig, rfl, rfl, rfl, hdec, hn9⟩ := hrel
          cases gk with
          | zero =>
            obtain rfl : i = X.size := by omega
            have hiz : ¬ ((X.size : Int) < (X.size : Int)) := by omega
            have hd : Lib.decFrom 0 r = some n := by
              have := hdec.out
              rw [List.take_of_length_le (by rw [← hSL.out]; exact Nat.le_refl _)] at this
              exact this
            have hsome : intR s.data.toList = some (-(n : Int)) := by rw [hint.out, hd]; rfl
            replace hsome := hide hsome
            go_wp2
            go_ret2
            exact ⟨-(n : Int), true, rfl, fun h => (by cases h), hsome.out, rfl⟩
          | succ g =>
            have hi : i < X.size := by omega
            have hiz : (i : Int) < (X.size : Int) := by omega
            obtain ⟨x, hx⟩ : ∃ x : UInt8, X[i]'hi = x := ⟨_, rfl⟩
            have hxl : r[i]? = some x := by rw [hL.out, ← hx]; exact Lib.data_getElem? X i hi
            have Hx := hide hxl
            clear hxl
            by_cases hd1 : (x.toNat : Int) < 48
            · have hnone : intR s.data.toList = none := by
                rw [hint.out, dec_none _ 0 i x Hx.out (by unfold Lib.digitVal; rw [if_neg (by omega)])]; rfl
              replace hnone := hide hnone
              go_wp2
              go_ret2
              exact ⟨0, false, rfl, fun _ => rfl, hnone.out, rfl⟩
            · by_cases hd2 : (57 : Int) < (x.toNat : Int)
              · have hnone : intR s.data.toList = none := by
                  rw [hint.out, dec_none _ 0 i x Hx.out (by unfold Lib.digitVal; rw [if_neg (by omega)])]; rfl
                replace hnone := hide hnone
                go_wp2
                go_ret2
                exact ⟨0, false, rfl, fun _ => rfl, hnone.out, rfl⟩
              · have hv : Lib.digitVal x = some (x.toNat - 48) := by unfold Lib.digitVal; rw [if_pos (by omega)]
                have hdn := Lib.decFrom_take r i 0 n x (x.toNat - 48) hdec.out Hx.out hv
                have hb9 := dec_bound18 hdn (by rw [List.length_take]; omega)
                replace hdn := hide hdn
                go_wp2
                go_roundg g
                case measure => omega
                case rel => exact ⟨i + 1, n * 10 + (x.toNat - 48), by omega, by go_num, by go_num, rfl, hdn, hb9⟩

theorem rinteger_any (s : ByteArray) (w : World) : Calls Tryz.prog 24 #[.string s] w (IntPost s w) := by
  cases h : s.data.toList with
  | nil => exact rinteger_empty s (by rw [Lib.size_eq, h]; rfl) w
  | cons b r =>
    by_cases h45 : b = 45
    · exact rinteger_minus s b r h h45 w
    · exact rinteger_plain s b r h (beq_false_of_ne (fun e => h45 (u8_ext (by have : (45 : UInt8).toNat = 45 := rfl; omega)))) w

theorem rinteger_yes (s : ByteArray) (n : Int) (h : IsInt s.data.toList n) (w : World) :
    Calls Tryz.prog 24 #[.string s] w fun e w' => e = .returned (.tuple #[.int .i64 n, .bool true]) ∧ Below w.heap.size w w' := by
  refine (rinteger_any s w).mono ?_
  rintro e w' ⟨m, ok, rfl, _, hr, rfl⟩
  rw [intR_yes h] at hr
  cases ok
  · cases hr
  · obtain rfl : n = m := by simpa using hr
    exact ⟨rfl, Below.refl _ _⟩

theorem rinteger_no (s : ByteArray) (h : ∀ n, ¬ IsInt s.data.toList n) (w : World) :
    Calls Tryz.prog 24 #[.string s] w fun e w' => e = .returned (.tuple #[.int .i64 0, .bool false]) ∧ Below w.heap.size w w' := by
  refine (rinteger_any s w).mono ?_
  rintro e w' ⟨m, ok, rfl, h0, hr, rfl⟩
  cases ok
  · rw [h0 rfl]; exact ⟨rfl, Below.refl _ _⟩
  · exact absurd (intR_is (by simpa using hr)) (h m)

end Go.Proofs.YtedenhfpbabjkaaGreatDoor
