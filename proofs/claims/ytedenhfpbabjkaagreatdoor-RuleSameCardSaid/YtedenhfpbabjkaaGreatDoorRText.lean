/-
  normalText: a text's normal form, as the program makes it. By an AI agent.
-/
import Derived.Test.YtedenhfpbabjkaaGreatDoorRRef
import Derived.Test.YtedenhfpbabjkaaGreatDoorShelf
import Derived.Laws.MakeOwn
namespace Go.Proofs.YtedenhfpbabjkaaGreatDoor
open Go.RowKit
set_option linter.unusedVariables false

theorem make8 (w : World) (n : Nat) (hn : n ≤ 281474976710656) :
    ∃ w', (Instr.makeSlice 73 (.int .i64 0) (.int .i64 (n : Int))).run Tryz.prog w = .ok (.slice (some ⟨w.heap.size, 0, none⟩) 0 n) w' ∧
      w'.ownsRow w.heap.size 5 1 (.slice (some ⟨w.heap.size, 0, none⟩) 0 n) 0 (bys []) ∧ Below w.heap.size w w' := by
  obtain ⟨i0, hi, hz0, hz1, hz2⟩ := info_parts info8
  obtain ⟨w', h1, h2, h3⟩ := run_make_own (P := Tryz.prog) w w.heap.size 73 5 i0 (.int .u8 0) 1 Tryz.underlying73 hi hz0 hz1 .i64 .i64 n (by rw [hz2]; omega) (by unfold maxLen; omega) (Nat.le_refl _)
  exact ⟨w', h1, h2, (Below.refl _ _).grown h3 (Nat.le_refl _) (fun g hg => by cases hg)⟩

theorem own_cons {w : World} {base : Nat} {v : Value} {acc : List UInt8} {y : UInt8} (h : w.ownsRow base 5 1 v (acc ++ [y]).length (bys (acc ++ [y]))) :
    ∃ g cap, v = .slice (some ⟨g, 0, none⟩) (acc.length + 1) cap ∧ w.cell? ⟨g, acc.length, none⟩ = some (.int .u8 (y.toNat : Int)) := by
  have hn : (acc ++ [y]).length = acc.length + 1 := by simp
  rw [hn] at h
  obtain ⟨g, cap, rfl, _⟩ := h.form (by omega)
  refine ⟨g, cap, rfl, ?_⟩
  rw [h.cellAt acc.length (by omega)]
  simp [bys, c8]

theorem trim_suffix (l : List UInt8) : Lib.trimSuffix (ntAll l) [32] = nt l := by
  rw [nt_trim]
  unfold Lib.trimSuffix Lib.hasSuffix
  rcases List.eq_nil_or_concat (ntAll l) with h | ⟨a, y, h⟩
  · rw [h]; rfl
  · rw [List.concat_eq_append] at h
    rw [h]
    by_cases hy : y = 32
    · subst hy
      simp
    · simp [hy]
      exact fun e => hy e.symm

set_option maxRecDepth 100000 in
set_option maxHeartbeats 16000000 in
theorem texts_any (s : ByteArray) (h200 : s.size ≤ 200) (w : World) :
    Calls Tryz.prog 32 #[.string s] w fun e w' => e = .returned (.string (txt (nt s.data.toList))) ∧ Below w.heap.size w w' := by
  obtain ⟨w1, hmake, hown, hb⟩ := make8 w s.size (by omega)
  have hL := hide (Lib.size_eq s)
  have hat : ∀ (i : Nat) (hi : i < s.size), s.data.toList[i]? = some s[i] := fun i hi => Lib.data_getElem? s i hi
  generalize hl : s.data.toList = l at *
  replace hl := hide hl
  replace hat := hide hat
  go_enter Tryz.func32, Tryz.ntmps32
  go_wp2
  go_loopg [3, 11] s.size (fun k s3 s11 wx => ∃ (i : Nat) (acc : List UInt8), i + k = s.size ∧ s11 = .int .i64 (i : Int) ∧ Hid (acc = ntAll (l.take i)) ∧ wx.ownsRow w.heap.size 5 1 s3 acc.length (bys acc) ∧ Below w.heap.size w wx)
  case atStart => exact ⟨0, [], by omega, rfl, hide rfl, hown, hb⟩
  case round =>
    obtain ⟨i, acc, hig, rfl, hacc, hor, hbr⟩ := hrel
    clear hown hb hmake
    cases gk with
    | zero =>
      obtain rfl : i = s.size := by omega
      have hiz : ¬ ((s.size : Int) < (s.size : Int)) := by omega
      obtain ⟨A, c, rfl, hnc, hHas⟩ := own_form hor
      have htx := txt8 wr c hHas
      have hacc3 : Hid (Lib.trimSuffix (txt acc).data.toList (⟨#[32]⟩ : ByteArray).data.toList = nt l) := by
        refine hide ?_
        rw [txt_toList]
        have e := hacc.out
        rw [List.take_of_length_le (by rw [← hL.out]; exact Nat.le_refl _)] at e
        rw [e]
        exact trim_suffix l
      have hts : (txt acc).size ≤ 9223372036854775807 := by
        rw [Lib.size_eq, txt_toList]
        have e := hacc.out
        have := ntAll_le (l.take s.size)
        rw [← e, List.length_take] at this
        omega
      have hT := fun w => Tryz.strings_TrimSuffix (txt acc) ⟨#[32]⟩ w hts
      rw [hacc3.out] at hT
      generalize hR : nt l = R at *
      generalize txt acc = X at *
      clear hacc hacc3 hts hHas hor
      go_wp2_with (go_at_call 54; refine (hT _).mono ?_; rintro e w' ⟨rfl, rfl⟩)
      go_ret
      exact ⟨by rw [hR]; rfl, hbr⟩
    | succ k =>
      have hi : i < s.size := by omega
      have hiz : (i : Int) < (s.size : Int) := by omega
      obtain ⟨x, hx⟩ : ∃ x : UInt8, s[i]'hi = x := ⟨_, rfl⟩
      have hxl : l[i]? = some x := by rw [hat.out i hi, hx]
      have htk : l.take (i + 1) = l.take i ++ [x] := by rw [List.take_add_one, hxl]; rfl
      have hacc2 : Hid (ntAll (l.take (i + 1)) = ntStep acc x) := by
        refine hide ?_
        rw [htk, ntAll_snoc, hacc.out]
      have hlen : Hid (acc.length ≤ 200) := hide (by
        rw [hacc.out]
        have := ntAll_le (l.take i)
        rw [List.length_take] at this
        omega)
      clear hxl htk
      have hone := one8 wr (low x)
      unfold c8 at hone
      have hH := Has.own hone
      have hor1 := hor.alloc (.cells #[.int .u8 ((low x).toNat : Int)] 5)
      have hbr1 := hbr.alloc hbr.size (.cells #[.int .u8 ((low x).toNat : Int)] 5)
      have hs1 := hbr1.size
      clear hone
      have hsm := fun w => small_any x w
      by_cases hb32 : x = 32
      · subst hb32
        have e32 : low 32 = 32 := by decide
        have hbz : ((((32 : UInt8).toNat : Int)) == 32) = true := rfl
        rcases List.eq_nil_or_concat acc with hnil | ⟨a, y, hcat⟩
        · subst hnil
          have hstep : Hid (ntStep [] 32 = []) := hide (by unfold ntStep; rw [if_pos ⟨rfl, Or.inl rfl⟩])
          obtain ⟨A, c, rfl, hnc, hHas⟩ := own_form hor
          clear hH hor1 hbr1 hs1 hsm hHas
          go_wp2
          go_roundg k
          case measure => omega
          case rel => exact ⟨i + 1, [], by omega, by go_num, hide (by rw [hacc2.out, hstep.out]), hor, hbr⟩
        · rw [List.concat_eq_append] at hcat
          subst hcat
          obtain ⟨g, cap, rfl, hcell⟩ := own_cons hor
          have hml : (a.length : Int) + 1 ≤ 200 := by have := hlen.out; simp at this; omega
          have hpos : ((a.length + 1 : Nat) : Int) = (a.length : Int) + 1 := by omega
          have hz0 : ((a.length : Int) + 1 == 0) = false := beq_false_of_ne (by omega)
          by_cases hy : y = 32
          · subst hy
            have hstep : Hid (ntStep (a ++ [32]) 32 = a ++ [32]) := hide (by unfold ntStep; rw [if_pos ⟨rfl, Or.inr (by simp)⟩])
            clear hH hor1 hbr1 hs1 hsm
            go_wp2
            go_roundg k
            case measure => omega
            case rel => exact ⟨i + 1, a ++ [32], by omega, by go_num, hide (by rw [hacc2.out, hstep.out]), by simpa using hor, hbr⟩
          · have hyz : ((y.toNat : Int) == 32) = false := beq_false_of_ne (fun h => hy (u8_ext (by have : (32 : UInt8).toNat = 32 := rfl; omega)))
            have hstep : Hid (ntStep (a ++ [y]) 32 = a ++ [y] ++ [low 32]) := hide (by
              unfold ntStep
              rw [if_neg]
              rintro ⟨_, h | h⟩
              · simp at h
              · simp at h; exact hy h)
            rw [e32] at hstep
            clear hor1 hbr1 hs1 hH
            have hone : (wr.alloc (.cells #[.int .u8 32] 5)).ownsRow wr.heap.size 5 1 (.slice (some ⟨wr.heap.size, 0, none⟩) 1 1) 1 (bys [32]) := one8 wr 32
            have hH := Has.own hone
            have hor1 := hor.alloc (.cells #[.int .u8 32] 5)
            have hbr1 := hbr.alloc hbr.size (.cells #[.int .u8 32] 5)
            have hs1 := hbr1.size
            clear hone hor hbr
            go_wp2_with (first
              | (go_at_call 53; refine (hsm _).mono ?_; rintro e w' ⟨rfl, rfl⟩)
              | (at_builtin; go_must (refine app8 _ rfl (.tmp 33) (.tmp 38) rfl w.heap.size _ (a ++ [y]).length (a ++ [y]) rfl hor1 _ _ 1 1 [32] rfl hH (by have := hlen.out; omega) hs1 ?_)))
            intro v' w3 hown3 hb3 _
            have hb4 := hbr1.trans hb3
            clear hor1 hbr1 hs1 hH hb3
            go_wp2
            go_roundg k
            case measure => omega
            case rel => exact ⟨i + 1, a ++ [y] ++ [32], by omega, by go_num, hide (by rw [hacc2.out, hstep.out]), by simpa using hown3, hb4⟩
      · have hne : ((x.toNat : Int) == 32) = false := beq_false_of_ne (fun h => hb32 (u8_ext (by have : (32 : UInt8).toNat = 32 := rfl; omega)))
        have hstep : Hid (ntStep acc x = acc ++ [low x]) := hide (by unfold ntStep; rw [if_neg (fun h => hb32 h.1)])
        clear hb32 hor hbr
        go_wp2_with (first
          | (go_at_call 53; refine (hsm _).mono ?_; rintro e w' ⟨rfl, rfl⟩)
          | (at_builtin; go_must (refine app8 _ rfl (.tmp 33) (.tmp 38) rfl w.heap.size _ acc.length acc rfl hor1 _ _ 1 1 [low x] rfl hH (by have := hlen.out; omega) hs1 ?_)))
        intro v' w3 hown3 hb3 _
        have hb4 := hbr1.trans hb3
        clear hor1 hbr1 hs1 hH hb3
        go_wp2
        go_roundg k
        case measure => omega
        case rel => exact ⟨i + 1, acc ++ [low x], by omega, by go_num, hide (by rw [hacc2.out, hstep.out]), by simpa using hown3, hb4⟩

end Go.Proofs.YtedenhfpbabjkaaGreatDoor
