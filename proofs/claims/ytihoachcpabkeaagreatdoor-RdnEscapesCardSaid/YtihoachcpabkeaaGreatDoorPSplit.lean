/-
  Split: a text cut at a byte, by the program and by the reference. By an AI agent.
-/
import Derived.Test.YtihoachcpabkeaaGreatDoorPCut
import Derived.Test.YtihoachcpabkeaaGreatDoorMC
import Derived.BigQuiet
import Derived.Deep.QuietTactic
import Derived.Deep.LoopGhost
import Derived.Handy
import Derived.Lib.IndexBytes
namespace Go.Proofs.YtihoachcpabkeaaGreatDoor
open Go.RowKit
set_option linter.unusedVariables false

theorem ne8' {c : UInt8} {k : Nat} (hk : k < 256) (h : c ≠ UInt8.ofNat k) : ((c.toNat : Int) == (k : Int)) = false := by
  refine beq_false_of_ne fun e => h ?_
  have e' : c.toNat = k := by omega
  apply UInt8.toNat_inj.1
  rw [e', UInt8.toNat_ofNat', Nat.mod_eq_of_lt (by omega)]
theorem nil_own' (w : World) (base : Nat) (e : TypeId) (size : Nat) : w.ownsRow base e size (.slice none 0 0) 0 [] := ⟨by simp, .inl ⟨rfl, rfl⟩⟩

set_option maxRecDepth 100000 in
set_option maxHeartbeats 16000000 in
theorem psplit_any (s : ByteArray) (hs : s.size ≤ 1000000) (sep : UInt8) (h92 : sep ≠ 92) (w : World) :
    Calls Tryz.prog 21 #[.string s, .int .u8 (sep.toNat : Int)] w fun e w' => ∃ v, e = .returned v ∧ w'.ownsRow w.heap.size 9 1 v (cuts sep s.data.toList).length (strs (cuts sep s.data.toList)) ∧ Below w.heap.size w w' := by
  have hL := hide (Lib.size_eq s)
  have hat : ∀ (i : Nat) (hi : i < s.size), s.data.toList[i]? = some s[i] := fun i hi => Lib.data_getElem? s i hi
  have hex := fun a b => ext_txt s a b
  have hCl := fun (x : ByteArray) (hx : x.size ≤ 281474976710656) w => clone_any x hx w
  have hsep92 : ((sep.toNat : Int) == 92) = false := ne8' (k := 92) (by omega) h92
  generalize hl : s.data.toList = l at *
  replace hl := hide hl
  replace hat := hide hat
  replace hex := hide hex
  replace h92 := hide h92
  go_enter Tryz.func21, Tryz.ntmps21
  go_wp2
  go_loopg [5, 6, 7] s.size (fun k s5 s6 s7 wx => ∃ (i st : Nat) (P : List (List UInt8)), s.size - i = k ∧ s6 = .int .i64 (st : Int) ∧ s7 = .int .i64 (i : Int) ∧ i ≤ s.size + 1 ∧ Hid (CutAt sep l P st i) ∧ wx.ownsRow w.heap.size 9 1 s5 P.length (strs P) ∧ Below w.heap.size w wx)
  case atStart => exact ⟨0, 0, [], by omega, rfl, rfl, by omega, hide (CutAt.start sep l), nil_own' _ _ _ _, Below.refl _ _⟩
  case round =>
    obtain ⟨i, st, P, hig, rfl, rfl, hi1, hC, hor, hbr⟩ := hrel
    have hst : st ≤ s.size := by have h1 := hC.out.stl; have h2 := hL.out; omega
    have hsti : st ≤ i := hC.out.le
    have hlen : Hid (P.length ≤ 1000001) := hide (by have := hC.out.few; omega)
    cases gk with
    | zero =>
      have hiz : ¬ ((i : Int) < (s.size : Int)) := by omega
      have hst2 : (st : Int) ≤ (s.size : Int) := by omega
      have hR : Hid (cuts sep l = P ++ [l.drop st]) := hide (hC.out.done (by have := hL.out; omega))
      obtain ⟨X, hX⟩ : ∃ X, s.extract st s.size = X := ⟨_, rfl⟩
      have hXt : Hid (X = txt (l.drop st)) := hide (by
        have h3 := hL.out
        rw [← hX, hex.out, List.take_of_length_le (by rw [List.length_drop, h3]; exact Nat.le_refl _)])
      have hXs : X.size ≤ 281474976710656 := by
        rw [hXt.out, txt_size, List.length_drop]
        have := hL.out; omega
      clear hC hat hex h92
      go_wp2_with (go_at_call 35; fail)
      refine (hCl _ hXs _).mono ?_
      rintro e wc ⟨rfl, hbc⟩
      have hbr1 := hbr.trans (hbc.mono hbr.size)
      have hor1 := own_below hor hbc
      clear hbr hor hbc hCl
      have hone := litS wc X
      have hH := Has.own hone
      have hor2 := hor1.alloc (.cells #[.string X] 9)
      have hbr2 := hbr1.alloc hbr1.size (.cells #[.string X] 9)
      have hs2 := hbr2.size
      have h1c : ∀ u ∈ [Value.string X], u.oneCell' = true := by simp [Value.oneCell']
      clear hone hor1 hbr1
      go_wp2_with (at_builtin; go_must (refine appE _ 44 9 _ 1 16 Tryz.underlying44 infoS rfl (by omega) (by omega) rfl (.tmp 35) (.tmp 40) rfl w.heap.size _ _ (strs P) rfl hor2 _ _ 1 1 [.string X] rfl hH h1c (by have := hlen.out; omega) hs2 ?_))
      intro v' w3 hown3 hb3 _
      have hb4 := hbr2.trans hb3
      clear hor2 hbr2 hs2 hH hb3 h1c
      go_wp2
      go_ret
      refine ⟨_, rfl, ?_, hb4⟩
      rw [hR.out, strs_append, List.length_append]
      have hXv : strs [l.drop st] = [Value.string X] := by rw [hXt.out]; rfl
      rw [hXv]
      exact hown3
    | succ k =>
      have hi : i < s.size := by omega
      have hiz : (i : Int) < (s.size : Int) := by omega
      obtain ⟨c, hx⟩ : ∃ c : UInt8, s[i]'hi = c := ⟨_, rfl⟩
      have hxl : Hid (l[i]? = some c) := hide (by rw [hat.out i hi, hx])
      have hst2 : (st : Int) ≤ (i : Int) := by omega
      have hii : (i : Int) ≤ (s.size : Int) := by omega
      clear hat
      by_cases hcs : c = sep
      · subst hcs
        have hceq : ((c.toNat : Int) == (c.toNat : Int)) = true := by simp
        have hC2 := hide (hC.out.sep hxl.out h92.out)
        obtain ⟨X, hX⟩ : ∃ X, s.extract st i = X := ⟨_, rfl⟩
        have hXt : Hid (X = txt ((l.drop st).take (i - st))) := hide (by rw [← hX, hex.out])
        have hXs : X.size ≤ 281474976710656 := by
          rw [hXt.out, txt_size, List.length_take, List.length_drop]
          have := hL.out; omega
        have hXv : Hid (strs [(l.drop st).take (i - st)] = [Value.string X]) := hide (by rw [hXt.out]; rfl)
        clear hC hex h92 hXt hxl
        go_wp2_with (go_at_call 35; fail)
        refine (hCl _ hXs _).mono ?_
        rintro e wc ⟨rfl, hbc⟩
        have hbr1 := hbr.trans (hbc.mono hbr.size)
        have hor1 := own_below hor hbc
        clear hbr hor hbc hCl
        have hone := litS wc X
        have hH := Has.own hone
        have hor2 := hor1.alloc (.cells #[.string X] 9)
        have hbr2 := hbr1.alloc hbr1.size (.cells #[.string X] 9)
        have hs2 := hbr2.size
        have h1c : ∀ u ∈ [Value.string X], u.oneCell' = true := by simp [Value.oneCell']
        clear hone hor1 hbr1
        go_wp2_with (at_builtin; go_must (refine appE _ 44 9 _ 1 16 Tryz.underlying44 infoS rfl (by omega) (by omega) rfl (.tmp 19) (.tmp 25) rfl w.heap.size _ _ (strs P) rfl hor2 _ _ 1 1 [.string X] rfl hH h1c (by have := hlen.out; omega) hs2 ?_))
        intro v' w3 hown3 hb3 _
        have hb4 := hbr2.trans hb3
        clear hor2 hbr2 hs2 hH hb3 h1c
        go_wp2
        go_roundg k
        case measure => omega
        case rel =>
          refine ⟨i + 1, i + 1, P ++ [(l.drop st).take (i - st)], by omega, by go_num, by go_num, by omega, hC2, ?_, hb4⟩
          rw [strs_append, List.length_append, hXv.out]
          exact hown3
      · have hne : ((c.toNat : Int) == (sep.toNat : Int)) = false := beq_false_of_ne fun e => hcs (UInt8.toNat_inj.1 (by omega))
        by_cases hc92 : c = 92
        · subst hc92
          have hC2 := hide (hC.out.stroke hxl.out)
          have hne2 : ((92 : Int) == (sep.toNat : Int)) = false := by rw [← hne]; rfl
          clear hC hex h92 hxl hcs
          go_wp2
          go_roundg (k - 1)
          case measure => omega
          case rel => exact ⟨i + 2, st, P, by omega, by go_num, by go_num, by omega, hC2, hor, hbr⟩
        · have hn92 : ((c.toNat : Int) == 92) = false := ne8' (k := 92) (by omega) hc92
          have hC2 := hide (hC.out.one hxl.out hc92 hcs)
          clear hC hex h92 hxl hcs hc92
          go_wp2
          go_roundg k
          case measure => omega
          case rel => exact ⟨i + 1, st, P, by omega, by go_num, by go_num, by omega, hC2, hor, hbr⟩

set_option maxRecDepth 100000 in
set_option maxHeartbeats 16000000 in
theorem rsplit_any (s : ByteArray) (hs : s.size ≤ 1000000) (sep : UInt8) (h92 : sep ≠ 92) (w : World) :
    Calls Tryz.prog 31 #[.string s, .int .u8 (sep.toNat : Int)] w fun e w' => ∃ v, e = .returned v ∧ w'.ownsRow w.heap.size 9 1 v (cuts sep s.data.toList).length (strs (cuts sep s.data.toList)) ∧ Below w.heap.size w w' := by
  have hL := hide (Lib.size_eq s)
  have hat : ∀ (i : Nat) (hi : i < s.size), s.data.toList[i]? = some s[i] := fun i hi => Lib.data_getElem? s i hi
  have hex := fun a b => ext_txt s a b

  have hsep92 : ((sep.toNat : Int) == 92) = false := ne8' (k := 92) (by omega) h92
  generalize hl : s.data.toList = l at *
  replace hl := hide hl
  replace hat := hide hat
  replace hex := hide hex
  replace h92 := hide h92
  go_enter Tryz.func31, Tryz.ntmps31
  go_wp2
  go_loopg [5, 6, 7] s.size (fun k s5 s6 s7 wx => ∃ (i st : Nat) (P : List (List UInt8)), s.size - i = k ∧ s6 = .int .i64 (st : Int) ∧ s7 = .int .i64 (i : Int) ∧ i ≤ s.size + 1 ∧ Hid (CutAt sep l P st i) ∧ wx.ownsRow w.heap.size 9 1 s5 P.length (strs P) ∧ Below w.heap.size w wx)
  case atStart => exact ⟨0, 0, [], by omega, rfl, rfl, by omega, hide (CutAt.start sep l), nil_own' _ _ _ _, Below.refl _ _⟩
  case round =>
    obtain ⟨i, st, P, hig, rfl, rfl, hi1, hC, hor, hbr⟩ := hrel
    have hst : st ≤ s.size := by have h1 := hC.out.stl; have h2 := hL.out; omega
    have hsti : st ≤ i := hC.out.le
    have hlen : Hid (P.length ≤ 1000001) := hide (by have := hC.out.few; omega)
    cases gk with
    | zero =>
      have hiz : ¬ ((i : Int) < (s.size : Int)) := by omega
      have hst2 : (st : Int) ≤ (s.size : Int) := by omega
      have hR : Hid (cuts sep l = P ++ [l.drop st]) := hide (hC.out.done (by have := hL.out; omega))
      obtain ⟨X, hX⟩ : ∃ X, s.extract st s.size = X := ⟨_, rfl⟩
      have hXt : Hid (X = txt (l.drop st)) := hide (by
        have h3 := hL.out
        rw [← hX, hex.out, List.take_of_length_le (by rw [List.length_drop, h3]; exact Nat.le_refl _)])
      have hXs : X.size ≤ 281474976710656 := by
        rw [hXt.out, txt_size, List.length_drop]
        have := hL.out; omega
      clear hC hat hex h92
      have hbr1 := hbr
      have hor1 := hor
      clear hbr hor
      have hone := litS wr X
      have hH := Has.own hone
      have hor2 := hor1.alloc (.cells #[.string X] 9)
      have hbr2 := hbr1.alloc hbr1.size (.cells #[.string X] 9)
      have hs2 := hbr2.size
      have h1c : ∀ u ∈ [Value.string X], u.oneCell' = true := by simp [Value.oneCell']
      clear hone hor1 hbr1
      go_wp2_with (at_builtin; go_must (refine appE _ 44 9 _ 1 16 Tryz.underlying44 infoS rfl (by omega) (by omega) rfl (.tmp 34) (.tmp 38) rfl w.heap.size _ _ (strs P) rfl hor2 _ _ 1 1 [.string X] rfl hH h1c (by have := hlen.out; omega) hs2 ?_))
      intro v' w3 hown3 hb3 _
      have hb4 := hbr2.trans hb3
      clear hor2 hbr2 hs2 hH hb3 h1c
      go_wp2
      go_ret
      refine ⟨_, rfl, ?_, hb4⟩
      rw [hR.out, strs_append, List.length_append]
      have hXv : strs [l.drop st] = [Value.string X] := by rw [hXt.out]; rfl
      rw [hXv]
      exact hown3
    | succ k =>
      have hi : i < s.size := by omega
      have hiz : (i : Int) < (s.size : Int) := by omega
      obtain ⟨c, hx⟩ : ∃ c : UInt8, s[i]'hi = c := ⟨_, rfl⟩
      have hxl : Hid (l[i]? = some c) := hide (by rw [hat.out i hi, hx])
      have hst2 : (st : Int) ≤ (i : Int) := by omega
      have hii : (i : Int) ≤ (s.size : Int) := by omega
      clear hat
      by_cases hcs : c = sep
      · subst hcs
        have hceq : ((c.toNat : Int) == (c.toNat : Int)) = true := by simp
        have hC2 := hide (hC.out.sep hxl.out h92.out)
        obtain ⟨X, hX⟩ : ∃ X, s.extract st i = X := ⟨_, rfl⟩
        have hXt : Hid (X = txt ((l.drop st).take (i - st))) := hide (by rw [← hX, hex.out])
        have hXs : X.size ≤ 281474976710656 := by
          rw [hXt.out, txt_size, List.length_take, List.length_drop]
          have := hL.out; omega
        have hXv : Hid (strs [(l.drop st).take (i - st)] = [Value.string X]) := hide (by rw [hXt.out]; rfl)
        clear hC hex h92 hXt hxl
        have hbr1 := hbr
        have hor1 := hor
        clear hbr hor
        have hone := litS wr X
        have hH := Has.own hone
        have hor2 := hor1.alloc (.cells #[.string X] 9)
        have hbr2 := hbr1.alloc hbr1.size (.cells #[.string X] 9)
        have hs2 := hbr2.size
        have h1c : ∀ u ∈ [Value.string X], u.oneCell' = true := by simp [Value.oneCell']
        clear hone hor1 hbr1
        go_wp2_with (at_builtin; go_must (refine appE _ 44 9 _ 1 16 Tryz.underlying44 infoS rfl (by omega) (by omega) rfl (.tmp 25) (.tmp 30) rfl w.heap.size _ _ (strs P) rfl hor2 _ _ 1 1 [.string X] rfl hH h1c (by have := hlen.out; omega) hs2 ?_))
        intro v' w3 hown3 hb3 _
        have hb4 := hbr2.trans hb3
        clear hor2 hbr2 hs2 hH hb3 h1c
        go_wp2
        go_roundg k
        case measure => omega
        case rel =>
          refine ⟨i + 1, i + 1, P ++ [(l.drop st).take (i - st)], by omega, by go_num, by go_num, by omega, hC2, ?_, hb4⟩
          rw [strs_append, List.length_append, hXv.out]
          exact hown3
      · have hne : ((c.toNat : Int) == (sep.toNat : Int)) = false := beq_false_of_ne fun e => hcs (UInt8.toNat_inj.1 (by omega))
        by_cases hc92 : c = 92
        · subst hc92
          have hC2 := hide (hC.out.stroke hxl.out)
          have hne2 : ((92 : Int) == (sep.toNat : Int)) = false := by rw [← hne]; rfl
          clear hC hex h92 hxl hcs
          go_wp2
          go_roundg (k - 1)
          case measure => omega
          case rel => exact ⟨i + 2, st, P, by omega, by go_num, by go_num, by omega, hC2, hor, hbr⟩
        · have hn92 : ((c.toNat : Int) == 92) = false := ne8' (k := 92) (by omega) hc92
          have hC2 := hide (hC.out.one hxl.out hc92 hcs)
          clear hC hex h92 hxl hcs hc92
          go_wp2
          go_roundg k
          case measure => omega
          case rel => exact ⟨i + 1, st, P, by omega, by go_num, by go_num, by omega, hC2, hor, hbr⟩

end Go.Proofs.YtihoachcpabkeaaGreatDoor
