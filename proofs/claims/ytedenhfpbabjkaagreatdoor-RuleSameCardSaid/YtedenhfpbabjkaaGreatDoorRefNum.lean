/-
  The reference's number: an integer of up to nine digits, perhaps with a sign ahead. By an AI agent.
-/
import Derived.Test.YtedenhfpbabjkaaGreatDoorTextMath
import Derived.Test.YtedenhfpbabjkaaGreatDoorPrints
import Derived.Deep.LoopGhost
namespace Go.Proofs.YtedenhfpbabjkaaGreatDoor
open Go.RowKit Flt
set_option linter.unusedVariables false

/-- The digits behind the sign. -/
def digs (l : List UInt8) : List UInt8 := match l with
  | [] => []
  | b :: r => if b = 45 ∨ b = 43 then r else l
def isNeg (l : List UInt8) : Bool := match l with
  | [] => false
  | b :: _ => b == 45

/-- The integer. -/
def numP (l : List UInt8) : Option Int := if 1 ≤ (digs l).length ∧ (digs l).length ≤ 9 then (Lib.decFrom 0 (digs l)).map fun (n : Nat) => if isNeg l then -(n : Int) else (n : Int) else none

theorem dec_digs (u : Nat) : digs (Lib.decDigits u) = Lib.decDigits u ∧ isNeg (Lib.decDigits u) = false := by
  obtain ⟨x, r, h, hx⟩ := dec_cons u
  rw [h]
  have h1 := ne_of_dig hx 45 (by decide)
  have h2 := ne_of_dig hx 43 (by decide)
  constructor
  · show (if x = 45 ∨ x = 43 then r else x :: r) = x :: r
    rw [if_neg (by rintro (e | e); exact h1 e; exact h2 e)]
  · unfold isNeg; exact beq_false_of_ne h1

theorem numP_itoa {a : Int} (h : Small a) : numP (Lib.itoa a) = some a := by
  by_cases h0 : 0 ≤ a
  · rw [itoa_pos h0]
    obtain ⟨e1, e2⟩ := dec_digs a.toNat
    have hl := dec_len a.toNat (by have := h.hi; omega)
    have hp : 1 ≤ (Lib.decDigits a.toNat).length := by obtain ⟨x, r, e, _⟩ := dec_cons a.toNat; rw [e]; simp
    unfold numP
    rw [e1, e2, if_pos ⟨hp, by omega⟩, dec_val]
    simp; omega
  · rw [itoa_neg' (by omega)]
    have hl := dec_len a.natAbs (by have := h.lo; omega)
    have hp : 1 ≤ (Lib.decDigits a.natAbs).length := by obtain ⟨x, r, e, _⟩ := dec_cons a.natAbs; rw [e]; simp
    have e1 : digs (45 :: Lib.decDigits a.natAbs) = Lib.decDigits a.natAbs := by simp [digs]
    have e2 : isNeg (45 :: Lib.decDigits a.natAbs) = true := rfl
    unfold numP
    rw [e1, e2, if_pos ⟨hp, by omega⟩, dec_val]
    simp; omega

theorem numP_plus {b : Int} (h : Small b) (h0 : 0 ≤ b) : numP (43 :: Lib.itoa b) = some b := by
  rw [itoa_pos h0]
  have hl := dec_len b.toNat (by have := h.hi; omega)
  have hp : 1 ≤ (Lib.decDigits b.toNat).length := by obtain ⟨x, r, e, _⟩ := dec_cons b.toNat; rw [e]; simp
  have e1 : digs (43 :: Lib.decDigits b.toNat) = Lib.decDigits b.toNat := by simp [digs]
  have e2 : isNeg (43 :: Lib.decDigits b.toNat) = false := rfl
  unfold numP
  rw [e1, e2, if_pos ⟨hp, by omega⟩, dec_val]
  simp; omega

/-- What number answers. -/
structure NumPost (s : ByteArray) (w : World) (e : Ending) (w' : World) : Prop where
  out : ∃ (n : Int) (ok : Bool), e = .returned (.tuple #[.int .i64 n, .bool ok]) ∧ (-999999999 ≤ n ∧ n ≤ 999999999) ∧ numP s.data.toList = (if ok then some n else none) ∧ w' = w

theorem digit_lt {b : UInt8} {d : Nat} (h : Lib.digitVal b = some d) : d < 10 ∧ (b.toNat : Int) = 48 + d := by
  unfold Lib.digitVal at h
  split at h
  · injection h with h; omega
  · cases h

theorem dec_none : ∀ (l : List UInt8) (acc : Nat) (k : Nat) (b : UInt8), l[k]? = some b → Lib.digitVal b = none → Lib.decFrom acc l = none
  | [], _, _, _, h, _ => by simp at h
  | x :: t, acc, 0, b, h, hb => by
    simp only [List.getElem?_cons_zero, Option.some.injEq] at h
    subst h
    simp [Lib.decFrom, hb]
  | x :: t, acc, k + 1, b, h, hb => by
    simp only [List.getElem?_cons_succ] at h
    simp only [Lib.decFrom]
    cases hx : Lib.digitVal x with
    | none => rfl
    | some d => exact dec_none t _ k b h hb

theorem dec_bound : ∀ (l : List UInt8) (n : Nat), Lib.decFrom 0 l = some n → l.length ≤ 9 → n ≤ 999999999 := by
  have key : ∀ (l : List UInt8) (acc n : Nat), Lib.decFrom acc l = some n → n < (acc + 1) * 10 ^ l.length := by
    intro l
    induction l with
    | nil => intro acc n h; simp [Lib.decFrom] at h; subst h; simp
    | cons b r ih =>
      intro acc n h
      simp only [Lib.decFrom] at h
      cases hb : Lib.digitVal b with
      | none => rw [hb] at h; cases h
      | some d =>
        rw [hb] at h
        have := ih _ _ h
        have hd := (digit_lt hb).1
        have h2 : (acc * 10 + d + 1) * 10 ^ r.length ≤ ((acc + 1) * 10) * 10 ^ r.length := Nat.mul_le_mul_right _ (by omega)
        rw [List.length_cons, Nat.pow_succ, Nat.mul_comm (10 ^ r.length), ← Nat.mul_assoc]
        omega
  intro l n h hl
  have := key l 0 n h
  have h2 : 10 ^ l.length ≤ 10 ^ 9 := Nat.pow_le_pow_right (by omega) hl
  omega


set_option maxRecDepth 100000 in
set_option maxHeartbeats 8000000 in
theorem number_empty (s : ByteArray) (h : s.size = 0) (w : World) :
    Calls Tryz.prog 46 #[.string s] w (NumPost s w) := by
  have hnone : numP s.data.toList = none := by
    have h1 := Lib.size_eq s
    have h2 : s.data.toList = [] := List.length_eq_zero_iff.1 (by omega)
    rw [h2]; rfl
  have h0 : (s.size : Int) = 0 := by omega
  go_enter Tryz.func46, Tryz.ntmps46
  go_wp2
  go_ret2
  exact ⟨0, false, rfl, by omega, hnone, rfl⟩

set_option maxRecDepth 100000 in
set_option maxHeartbeats 8000000 in
theorem number_plain (s : ByteArray) (b : UInt8) (r : List UInt8) (h : s.data.toList = b :: r) (e45 : ((b.toNat : Int) == 45) = false) (e43 : ((b.toNat : Int) == 43) = false) (w : World) :
    Calls Tryz.prog 46 #[.string s] w (NumPost s w) := by
  have hsz := Lib.size_eq s
  rw [h] at hsz
  have hs0 : 0 < s.size := by rw [hsz]; simp
  have hs1 : (0 : Int) < (s.size : Int) := by omega
  have hb0 : s[0]'hs0 = b := by
    have h1 := Lib.data_getElem? s 0 hs0
    rw [h] at h1
    exact (Option.some.inj h1).symm
  have hne : ¬ (b = 45 ∨ b = 43) := by
    rintro (e | e)
    · subst e; simp at e45
    · subst e; simp at e43
  have hnum : Hid (numP s.data.toList = if 1 ≤ (b :: r).length ∧ (b :: r).length ≤ 9 then (Lib.decFrom 0 (b :: r)).map fun (n : Nat) => (n : Int) else none) := by
    refine hide ?_
    rw [h]
    unfold numP
    have e1 : digs (b :: r) = b :: r := by
      show (if b = 45 ∨ b = 43 then r else b :: r) = b :: r
      rw [if_neg hne]
    have e2 : isNeg (b :: r) = false := beq_false_of_ne (fun e => hne (Or.inl e))
    rw [e1, e2]; rfl
  have hSL : Hid (s.size = (b :: r).length) := hide hsz
  have hL : Hid ((b :: r) = s.data.toList) := hide h.symm
  clear h hsz hne
  go_enter Tryz.func46, Tryz.ntmps46
  by_cases hN1 : s.size < 1
  · have hnone : numP s.data.toList = none := by rw [hnum.out, if_neg (by rw [← hSL.out]; omega)]
    have h1 : ((s.size : Int) < 1) := by omega
    go_wp2
    go_ret2
    exact ⟨0, false, rfl, by omega, hnone, rfl⟩
  · by_cases hN9 : 9 < s.size
    · have hnone : numP s.data.toList = none := by rw [hnum.out, if_neg (by rw [← hSL.out]; omega)]
      have h1 : ¬ ((s.size : Int) < 1) := by omega
      have h2 : ((9 : Int) < (s.size : Int)) := by omega
      go_wp2
      go_ret2
      exact ⟨0, false, rfl, by omega, hnone, rfl⟩
    · have h1 : ¬ ((s.size : Int) < 1) := by omega
      have h2 : ¬ ((9 : Int) < (s.size : Int)) := by omega
      go_wp2
      go_loopg [4, 6] s.size (fun g s4 s6 wx => ∃ (i n : Nat), i + g = s.size ∧ s4 = .int .i64 (n : Int) ∧ s6 = .int .i64 (i : Int) ∧ wx = w ∧ Hid (Lib.decFrom 0 ((b :: r).take i) = some n) ∧ n ≤ 999999999)
      case atStart => exact ⟨0, 0, by omega, rfl, rfl, rfl, hide rfl, by omega⟩
      case round =>
        obtain ⟨i, n, hig, rfl, rfl, rfl, hdec, hn9⟩ := hrel
        cases gk with
        | zero =>
          obtain rfl : i = s.size := by omega
          have hiz : ¬ ((s.size : Int) < (s.size : Int)) := by omega
          have hd : Lib.decFrom 0 (b :: r) = some n := by
            have := hdec.out
            rw [List.take_of_length_le (by rw [← hSL.out]; exact Nat.le_refl _)] at this
            exact this
          have hsome : numP s.data.toList = some ((n : Int)) := by rw [hnum.out, if_pos (by rw [← hSL.out]; omega), hd]; rfl
          replace hsome := hide hsome
          go_wp2
          go_ret2
          exact ⟨(n : Int), true, rfl, by omega, hsome.out, rfl⟩
        | succ g =>
          have hi : i < s.size := by omega
          have hiz : (i : Int) < (s.size : Int) := by omega
          obtain ⟨x, hx⟩ : ∃ x : UInt8, s[i]'hi = x := ⟨_, rfl⟩
          have hxl : (b :: r)[i]? = some x := by rw [hL.out, ← hx]; exact Lib.data_getElem? s i hi
          have Hx := hide hxl
          clear hxl
          by_cases hd1 : (x.toNat : Int) < 48
          · have hnone : numP s.data.toList = none := by
              rw [hnum.out, if_pos (by rw [← hSL.out]; omega), dec_none _ 0 i x Hx.out (by unfold Lib.digitVal; rw [if_neg (by omega)])]; rfl
            replace hnone := hide hnone
            go_wp2
            go_ret2
            exact ⟨0, false, rfl, by omega, hnone.out, rfl⟩
          · by_cases hd2 : (57 : Int) < (x.toNat : Int)
            · have hnone : numP s.data.toList = none := by
                rw [hnum.out, if_pos (by rw [← hSL.out]; omega), dec_none _ 0 i x Hx.out (by unfold Lib.digitVal; rw [if_neg (by omega)])]; rfl
              replace hnone := hide hnone
              go_wp2
              go_ret2
              exact ⟨0, false, rfl, by omega, hnone.out, rfl⟩
            · have hv : Lib.digitVal x = some (x.toNat - 48) := by unfold Lib.digitVal; rw [if_pos (by omega)]
              have hdn := Lib.decFrom_take (b :: r) i 0 n x (x.toNat - 48) hdec.out Hx.out hv
              have hb9 := dec_bound _ _ hdn (by rw [List.length_take]; omega)
              replace hdn := hide hdn
              go_wp2
              go_roundg g
              case measure => omega
              case rel => exact ⟨i + 1, n * 10 + (x.toNat - 48), by omega, by go_num, by go_num, rfl, hdn, hb9⟩

set_option maxRecDepth 100000 in
set_option maxHeartbeats 8000000 in
theorem number_minus (s : ByteArray) (b : UInt8) (r : List UInt8) (h : s.data.toList = b :: r) (e45 : b = 45) (w : World) :
    Calls Tryz.prog 46 #[.string s] w (NumPost s w) := by
  have hsz := Lib.size_eq s
  rw [h] at hsz
  have hs0 : 0 < s.size := by rw [hsz]; simp
  have hs1 : (0 : Int) < (s.size : Int) := by omega
  have hb0 : s[0]'hs0 = b := by
    have h1 := Lib.data_getElem? s 0 hs0
    rw [h] at h1
    exact (Option.some.inj h1).symm
  subst e45
  have hnum : Hid (numP s.data.toList = if 1 ≤ r.length ∧ r.length ≤ 9 then (Lib.decFrom 0 r).map fun (n : Nat) => -(n : Int) else none) := by
    refine hide ?_
    rw [h]; rfl
  have hXl : (s.extract 1 s.size).data.toList = r := by rw [drop_bytes, h]; rfl
  have hXs : (s.extract 1 s.size).size = s.size - 1 := by rw [ByteArray.size_extract]; omega
  have hSL : (s.extract 1 s.size).size = r.length := by rw [Lib.size_eq, hXl]
  have hs2 : (1 : Int) ≤ (s.size : Int) := by omega
  have hn1 : ((1 : Int)).toNat = 1 := rfl
  generalize hX : s.extract 1 s.size = X at *
  replace hSL := hide hSL
  replace hXl := hXl.symm
  have hL : Hid (r = X.data.toList) := hide hXl
  clear h hsz hXl hXs
  go_enter Tryz.func46, Tryz.ntmps46
  by_cases hN1 : X.size < 1
  · have hnone : numP s.data.toList = none := by rw [hnum.out, if_neg (by rw [← hSL.out]; omega)]
    have h1 : ((X.size : Int) < 1) := by omega
    go_wp2
    go_ret2
    exact ⟨0, false, rfl, by omega, hnone, rfl⟩
  · by_cases hN9 : 9 < X.size
    · have hnone : numP s.data.toList = none := by rw [hnum.out, if_neg (by rw [← hSL.out]; omega)]
      have h1 : ¬ ((X.size : Int) < 1) := by omega
      have h2 : ((9 : Int) < (X.size : Int)) := by omega
      go_wp2
      go_ret2
      exact ⟨0, false, rfl, by omega, hnone, rfl⟩
    · have h1 : ¬ ((X.size : Int) < 1) := by omega
      have h2 : ¬ ((9 : Int) < (X.size : Int)) := by omega
      go_wp2
      go_loopg [4, 6] X.size (fun g s4 s6 wx => ∃ (i n : Nat), i + g = X.size ∧ s4 = .int .i64 (n : Int) ∧ s6 = .int .i64 (i : Int) ∧ wx = w ∧ Hid (Lib.decFrom 0 (r.take i) = some n) ∧ n ≤ 999999999)
      case atStart => exact ⟨0, 0, by omega, rfl, rfl, rfl, hide rfl, by omega⟩
      case round =>
        obtain ⟨i, n, hig, rfl, rfl, rfl, hdec, hn9⟩ := hrel
        cases gk with
        | zero =>
          obtain rfl : i = X.size := by omega
          have hiz : ¬ ((X.size : Int) < (X.size : Int)) := by omega
          have hd : Lib.decFrom 0 r = some n := by
            have := hdec.out
            rw [List.take_of_length_le (by rw [← hSL.out]; exact Nat.le_refl _)] at this
            exact this
          have hsome : numP s.data.toList = some (-(n : Int)) := by rw [hnum.out, if_pos (by rw [← hSL.out]; omega), hd]; rfl
          replace hsome := hide hsome
          go_wp2
          go_ret2
          exact ⟨-(n : Int), true, rfl, by omega, hsome.out, rfl⟩
        | succ g =>
          have hi : i < X.size := by omega
          have hiz : (i : Int) < (X.size : Int) := by omega
          obtain ⟨x, hx⟩ : ∃ x : UInt8, X[i]'hi = x := ⟨_, rfl⟩
          have hxl : r[i]? = some x := by rw [hL.out, ← hx]; exact Lib.data_getElem? X i hi
          have Hx := hide hxl
          clear hxl
          by_cases hd1 : (x.toNat : Int) < 48
          · have hnone : numP s.data.toList = none := by
              rw [hnum.out, if_pos (by rw [← hSL.out]; omega), dec_none _ 0 i x Hx.out (by unfold Lib.digitVal; rw [if_neg (by omega)])]; rfl
            replace hnone := hide hnone
            go_wp2
            go_ret2
            exact ⟨0, false, rfl, by omega, hnone.out, rfl⟩
          · by_cases hd2 : (57 : Int) < (x.toNat : Int)
            · have hnone : numP s.data.toList = none := by
                rw [hnum.out, if_pos (by rw [← hSL.out]; omega), dec_none _ 0 i x Hx.out (by unfold Lib.digitVal; rw [if_neg (by omega)])]; rfl
              replace hnone := hide hnone
              go_wp2
              go_ret2
              exact ⟨0, false, rfl, by omega, hnone.out, rfl⟩
            · have hv : Lib.digitVal x = some (x.toNat - 48) := by unfold Lib.digitVal; rw [if_pos (by omega)]
              have hdn := Lib.decFrom_take r i 0 n x (x.toNat - 48) hdec.out Hx.out hv
              have hb9 := dec_bound _ _ hdn (by rw [List.length_take]; omega)
              replace hdn := hide hdn
              go_wp2
              go_roundg g
              case measure => omega
              case rel => exact ⟨i + 1, n * 10 + (x.toNat - 48), by omega, by go_num, by go_num, rfl, hdn, hb9⟩

set_option maxRecDepth 100000 in
set_option maxHeartbeats 8000000 in
theorem number_plus (s : ByteArray) (b : UInt8) (r : List UInt8) (h : s.data.toList = b :: r) (e43 : b = 43) (w : World) :
    Calls Tryz.prog 46 #[.string s] w (NumPost s w) := by
  have hsz := Lib.size_eq s
  rw [h] at hsz
  have hs0 : 0 < s.size := by rw [hsz]; simp
  have hs1 : (0 : Int) < (s.size : Int) := by omega
  have hb0 : s[0]'hs0 = b := by
    have h1 := Lib.data_getElem? s 0 hs0
    rw [h] at h1
    exact (Option.some.inj h1).symm
  subst e43
  have hnum : Hid (numP s.data.toList = if 1 ≤ r.length ∧ r.length ≤ 9 then (Lib.decFrom 0 r).map fun (n : Nat) => (n : Int) else none) := by
    refine hide ?_
    rw [h]; rfl
  have hXl : (s.extract 1 s.size).data.toList = r := by rw [drop_bytes, h]; rfl
  have hXs : (s.extract 1 s.size).size = s.size - 1 := by rw [ByteArray.size_extract]; omega
  have hSL : (s.extract 1 s.size).size = r.length := by rw [Lib.size_eq, hXl]
  have hs2 : (1 : Int) ≤ (s.size : Int) := by omega
  have hn1 : ((1 : Int)).toNat = 1 := rfl
  generalize hX : s.extract 1 s.size = X at *
  replace hSL := hide hSL
  replace hXl := hXl.symm
  have hL : Hid (r = X.data.toList) := hide hXl
  clear h hsz hXl hXs
  go_enter Tryz.func46, Tryz.ntmps46
  by_cases hN1 : X.size < 1
  · have hnone : numP s.data.toList = none := by rw [hnum.out, if_neg (by rw [← hSL.out]; omega)]
    have h1 : ((X.size : Int) < 1) := by omega
    go_wp2
    go_ret2
    exact ⟨0, false, rfl, by omega, hnone, rfl⟩
  · by_cases hN9 : 9 < X.size
    · have hnone : numP s.data.toList = none := by rw [hnum.out, if_neg (by rw [← hSL.out]; omega)]
      have h1 : ¬ ((X.size : Int) < 1) := by omega
      have h2 : ((9 : Int) < (X.size : Int)) := by omega
      go_wp2
      go_ret2
      exact ⟨0, false, rfl, by omega, hnone, rfl⟩
    · have h1 : ¬ ((X.size : Int) < 1) := by omega
      have h2 : ¬ ((9 : Int) < (X.size : Int)) := by omega
      go_wp2
      go_loopg [4, 6] X.size (fun g s4 s6 wx => ∃ (i n : Nat), i + g = X.size ∧ s4 = .int .i64 (n : Int) ∧ s6 = .int .i64 (i : Int) ∧ wx = w ∧ Hid (Lib.decFrom 0 (r.take i) = some n) ∧ n ≤ 999999999)
      case atStart => exact ⟨0, 0, by omega, rfl, rfl, rfl, hide rfl, by omega⟩
      case round =>
        obtain ⟨i, n, hig, rfl, rfl, rfl, hdec, hn9⟩ := hrel
        cases gk with
        | zero =>
          obtain rfl : i = X.size := by omega
          have hiz : ¬ ((X.size : Int) < (X.size : Int)) := by omega
          have hd : Lib.decFrom 0 r = some n := by
            have := hdec.out
            rw [List.take_of_length_le (by rw [← hSL.out]; exact Nat.le_refl _)] at this
            exact this
          have hsome : numP s.data.toList = some ((n : Int)) := by rw [hnum.out, if_pos (by rw [← hSL.out]; omega), hd]; rfl
          replace hsome := hide hsome
          go_wp2
          go_ret2
          exact ⟨(n : Int), true, rfl, by omega, hsome.out, rfl⟩
        | succ g =>
          have hi : i < X.size := by omega
          have hiz : (i : Int) < (X.size : Int) := by omega
          obtain ⟨x, hx⟩ : ∃ x : UInt8, X[i]'hi = x := ⟨_, rfl⟩
          have hxl : r[i]? = some x := by rw [hL.out, ← hx]; exact Lib.data_getElem? X i hi
          have Hx := hide hxl
          clear hxl
          by_cases hd1 : (x.toNat : Int) < 48
          · have hnone : numP s.data.toList = none := by
              rw [hnum.out, if_pos (by rw [← hSL.out]; omega), dec_none _ 0 i x Hx.out (by unfold Lib.digitVal; rw [if_neg (by omega)])]; rfl
            replace hnone := hide hnone
            go_wp2
            go_ret2
            exact ⟨0, false, rfl, by omega, hnone.out, rfl⟩
          · by_cases hd2 : (57 : Int) < (x.toNat : Int)
            · have hnone : numP s.data.toList = none := by
                rw [hnum.out, if_pos (by rw [← hSL.out]; omega), dec_none _ 0 i x Hx.out (by unfold Lib.digitVal; rw [if_neg (by omega)])]; rfl
              replace hnone := hide hnone
              go_wp2
              go_ret2
              exact ⟨0, false, rfl, by omega, hnone.out, rfl⟩
            · have hv : Lib.digitVal x = some (x.toNat - 48) := by unfold Lib.digitVal; rw [if_pos (by omega)]
              have hdn := Lib.decFrom_take r i 0 n x (x.toNat - 48) hdec.out Hx.out hv
              have hb9 := dec_bound _ _ hdn (by rw [List.length_take]; omega)
              replace hdn := hide hdn
              go_wp2
              go_roundg g
              case measure => omega
              case rel => exact ⟨i + 1, n * 10 + (x.toNat - 48), by omega, by go_num, by go_num, rfl, hdn, hb9⟩


theorem number_any (s : ByteArray) (w : World) : Calls Tryz.prog 46 #[.string s] w (NumPost s w) := by
  have hsz := Lib.size_eq s
  cases h : s.data.toList with
  | nil => exact number_empty s (by rw [hsz, h]; rfl) w
  | cons b r =>
    by_cases e45 : b = 45
    · exact number_minus s b r h e45 w
    · by_cases e43 : b = 43
      · exact number_plus s b r h e43 w
      · refine number_plain s b r h ?_ ?_ w
        · exact beq_false_of_ne (fun e => e45 (UInt8.toNat_inj.1 (by simp; omega)))
        · exact beq_false_of_ne (fun e => e43 (UInt8.toNat_inj.1 (by simp; omega)))

end Go.Proofs.YtedenhfpbabjkaaGreatDoor
