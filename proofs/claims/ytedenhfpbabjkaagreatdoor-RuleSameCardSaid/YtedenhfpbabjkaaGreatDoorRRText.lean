/-
  The reference's text: a text's normal form, or none. By an AI agent.
-/
import Derived.Test.YtedenhfpbabjkaaGreatDoorRText
namespace Go.Proofs.YtedenhfpbabjkaaGreatDoor
open Go.RowKit
set_option linter.unusedVariables false

/-- What the reference tells: nothing of a text with a 0 byte. -/
noncomputable def rtxt (l : List UInt8) : List UInt8 := if (0 : UInt8) ∈ l then [] else nt l

theorem not_of_low {x k : UInt8} (hk : k.toNat < 65) (h : x ≠ k) : (((low x).toNat : Int) == (k.toNat : Int)) = false :=
  beq_false_of_ne fun e => h ((low_eq x k hk).1 (u8_ext (by omega)))

theorem zero_take {l : List UInt8} {i : Nat} {x : UInt8} (h : l[i]? = some x) (h0 : (0 : UInt8) ∉ l.take i) (hx : x ≠ 0) : (0 : UInt8) ∉ l.take (i + 1) := by
  rw [List.take_add_one, h]
  simp only [Option.toList_some, List.mem_append, List.mem_singleton, not_or]
  exact ⟨h0, fun e => hx e.symm⟩

set_option maxRecDepth 100000 in
set_option maxHeartbeats 16000000 in
theorem rtexts_any (s : ByteArray) (h200 : s.size ≤ 200) (w : World) :
    Calls Tryz.prog 56 #[.string s] w fun e w' => e = .returned (.string (txt (rtxt s.data.toList))) ∧ Below w.heap.size w w' := by
  have hW := fun w => lower_any s (by omega) w
  have hL := Lib.size_eq s
  generalize hl : s.data.toList = l at *
  replace hl := hide hl
  have hSl : (txt (lows l)).data.toList = lows l := txt_toList _
  have hSs := Lib.size_eq (txt (lows l))
  rw [hSl, lows_length, ← hL] at hSs
  have hat : ∀ (i : Nat) (hi : i < (txt (lows l)).size), (lows l)[i]? = some (txt (lows l))[i] := fun i hi => by rw [← Lib.data_getElem? _ i hi, hSl]
  generalize txt (lows l) = S at *
  replace hat := hide hat
  replace hL := hide hL
  have hS200 : S.size ≤ 200 := by omega
  replace hSs := hide hSs
  clear hSl
  go_enter Tryz.func56, Tryz.ntmps56
  go_wp2_with (go_at_call 45; fail)
  refine (hW _).mono ?_
  rintro e w1 ⟨rfl, hb⟩
  clear hW
  go_wp2
  go_loopg [3, 4, 6] S.size (fun k s3 s4 s6 wx => ∃ (i : Nat) (g : Bool) (o : List UInt8), i + k = S.size ∧ s6 = .int .i64 (i : Int) ∧ s4 = .bool g ∧ Hid (rtAll (l.take i) = (g, o)) ∧ Hid ((0 : UInt8) ∉ l.take i) ∧ wx.ownsRow w.heap.size 5 1 s3 o.length (bys o) ∧ Below w.heap.size w wx)
  case atStart => exact ⟨0, false, [], by omega, rfl, rfl, hide rfl, hide (by simp), World.ownsRow_nil _ _ _ _, hb⟩
  case round =>
    obtain ⟨i, g, o, hig, rfl, rfl, hst, h0, hor, hbr⟩ := hrel
    clear hb
    cases gk with
    | zero =>
      obtain rfl : i = S.size := by omega
      have hiz : ¬ ((S.size : Int) < (S.size : Int)) := by omega
      obtain ⟨A, c, rfl, hnc, hHas⟩ := own_form hor
      have htx := txt8 wr c hHas
      have hR : Hid (txt o = txt (rtxt l)) := by
        refine hide ?_
        have e1 := hst.out
        have e2 := h0.out
        have e3 : l.take S.size = l := List.take_of_length_le (by rw [hSs.out, ← hL.out]; exact Nat.le_refl _)
        rw [e3] at e1 e2
        unfold rtxt nt
        rw [if_neg e2, e1]
      generalize txt o = X at *
      clear hst h0 hHas hor
      go_wp2
      go_ret
      exact ⟨by rw [← hR.out]; rfl, hbr⟩
    | succ k =>
      have hi : i < S.size := by omega
      have hiz : (i : Int) < (S.size : Int) := by omega
      have hil : i < l.length := by rw [← hL.out, ← hSs.out]; exact hi
      obtain ⟨x, hx⟩ : ∃ x, l[i]? = some x := ⟨_, List.getElem?_eq_getElem hil⟩
      have hxS : S[i]'hi = low x := by
        have := hat.out i hi
        rw [lows_at hx] at this
        exact (Option.some.inj this).symm
      have htk : rtAll (l.take (i + 1)) = rtStep (g, o) x := by rw [List.take_add_one, hx]; simp only [Option.toList_some]; rw [rtAll_snoc, hst.out]
      have ho200 : Hid (o.length ≤ 200) := hide (by
        have h1 := nt_len (l.take i)
        rw [hst.out, List.length_take] at h1
        simp only at h1
        omega)
      replace htk := hide htk
      by_cases hx0 : x = 0
      · subst hx0
        have hz : (((low 0).toNat : Int) == 0) = true := by decide
        have hR : Hid (rtxt l = []) := hide (by unfold rtxt; rw [if_pos (List.mem_of_getElem? hx)])
        clear hst h0 hor htk
        go_wp2
        go_ret
        exact ⟨by rw [hR.out]; rfl, hbr⟩
      · have hz : (((low x).toNat : Int) == 0) = false := not_of_low (k := 0) (by decide) hx0
        have h02 := hide (zero_take hx h0.out hx0)
        clear h0
        replace hx := hide hx
        by_cases hx32 : x = 32
        · subst hx32
          have hz32 : (((low 32).toNat : Int) == 32) = true := by decide
          have hst2 : Hid (rtAll (l.take (i + 1)) = (true, o)) := hide (by rw [htk.out]; simp [rtStep])
          clear htk hst
          go_wp2
          go_roundg k
          case measure => omega
          case rel => exact ⟨i + 1, true, o, by omega, by go_num, rfl, hst2, h02, hor, hbr⟩
        · have hz32 : (((low x).toNat : Int) == 32) = false := not_of_low (k := 32) (by decide) hx32
          obtain ⟨A, c, rfl, hnc, hHas⟩ := own_form hor
          clear hHas hnc
          have hst1 : Hid (rtAll (l.take (i + 1)) = (false, (if g = true ∧ o ≠ [] then o ++ [32] else o) ++ [low x])) := hide (by rw [htk.out]; simp [rtStep, hx32])
          clear htk hst
          generalize low x = y at *
          by_cases hg : g = true ∧ o ≠ []
          · obtain ⟨rfl, ho⟩ := hg
            have hst2 : Hid (rtAll (l.take (i + 1)) = (false, o ++ [32] ++ [y])) := hide (by rw [hst1.out, if_pos ⟨rfl, ho⟩])
            have hpos : (0 : Int) < (o.length : Int) := by have := List.length_pos_iff.2 ho; omega
            clear hst1 ho
            have hone0 : (wr.alloc (.cells #[.int .u8 32] 5)).ownsRow wr.heap.size 5 1 (.slice (some ⟨wr.heap.size, 0, none⟩) 1 1) 1 (bys [32]) := one8 wr 32
            have hH0 := Has.own hone0
            have hor0 := hor.alloc (.cells #[.int .u8 32] 5)
            have hbr0 := hbr.alloc hbr.size (.cells #[.int .u8 32] 5)
            have hs0 := hbr0.size
            clear hone0 hor hbr
            go_wp2_with (at_builtin; go_must (refine app8 _ rfl (.tmp 29) (.tmp 30) rfl w.heap.size _ _ o rfl hor0 _ _ 1 1 [32] rfl hH0 (by have := ho200.out; omega) hs0 ?_))
            intro v1 w2 hown2 hb2 _
            have hb3 := hbr0.trans hb2
            have hl2 : o.length + 1 = (o ++ [32]).length := by simp
            rw [hl2] at hown2
            clear hor0 hbr0 hs0 hH0 hb2 hpos hl2
            have hone := one8 w2 y
            unfold c8 at hone
            have hH := Has.own hone
            have hor1 := hown2.alloc (.cells #[.int .u8 (y.toNat : Int)] 5)
            have hbr1 := hb3.alloc hb3.size (.cells #[.int .u8 (y.toNat : Int)] 5)
            have hs1 := hbr1.size
            clear hone hown2 hb3
            go_wp2_with (at_builtin; go_must (refine app8 _ rfl (.tmp 32) (.tmp 36) rfl w.heap.size _ _ (o ++ [32]) rfl hor1 _ _ 1 1 [y] rfl hH (by have := ho200.out; first | omega | (simp; omega)) hs1 ?_))
            intro v' w3 hown3 hb5 _
            have hb4 := hbr1.trans hb5
            clear hor1 hbr1 hs1 hH hb5
            go_wp2
            go_roundg k
            case measure => omega
            case rel => exact ⟨i + 1, false, (o ++ [32]) ++ [y], by omega, by go_num, rfl, hst2, h02, by simpa using hown3, hb4⟩
          · have hst2 : Hid (rtAll (l.take (i + 1)) = (false, o ++ [y])) := hide (by rw [hst1.out, if_neg hg])
            cases g with
            | false =>
              clear hst1 hg
              have hone := one8 wr y
              unfold c8 at hone
              have hH := Has.own hone
              have hor1 := hor.alloc (.cells #[.int .u8 (y.toNat : Int)] 5)
              have hbr1 := hbr.alloc hbr.size (.cells #[.int .u8 (y.toNat : Int)] 5)
              have hs1 := hbr1.size
              clear hone hor hbr
              go_wp2_with (at_builtin; go_must (refine app8 _ rfl (.tmp 32) (.tmp 36) rfl w.heap.size _ _ o rfl hor1 _ _ 1 1 [y] rfl hH (by have := ho200.out; first | omega | (simp; omega)) hs1 ?_))
              intro v' w3 hown3 hb3 _
              have hb4 := hbr1.trans hb3
              clear hor1 hbr1 hs1 hH hb3
              go_wp2
              go_roundg k
              case measure => omega
              case rel => exact ⟨i + 1, false, o ++ [y], by omega, by go_num, rfl, hst2, h02, by simpa using hown3, hb4⟩
            | true =>
              have ho : o = [] := by
                rcases o with _ | ⟨a, b⟩
                · rfl
                · exact absurd ⟨rfl, by simp⟩ hg
              subst ho
              clear hst1 hg
              have hone := one8 wr y
              unfold c8 at hone
              have hH := Has.own hone
              have hor1 := hor.alloc (.cells #[.int .u8 (y.toNat : Int)] 5)
              have hbr1 := hbr.alloc hbr.size (.cells #[.int .u8 (y.toNat : Int)] 5)
              have hs1 := hbr1.size
              clear hone hor hbr
              go_wp2_with (at_builtin; go_must (refine app8 _ rfl (.tmp 32) (.tmp 36) rfl w.heap.size _ _ [] rfl hor1 _ _ 1 1 [y] rfl hH (by have := ho200.out; first | omega | (simp; omega)) hs1 ?_))
              intro v' w3 hown3 hb3 _
              have hb4 := hbr1.trans hb3
              clear hor1 hbr1 hs1 hH hb3
              go_wp2
              go_roundg k
              case measure => omega
              case rel => exact ⟨i + 1, false, [] ++ [y], by omega, by go_num, rfl, hst2, h02, by simpa using hown3, hb4⟩

end Go.Proofs.YtedenhfpbabjkaaGreatDoor
