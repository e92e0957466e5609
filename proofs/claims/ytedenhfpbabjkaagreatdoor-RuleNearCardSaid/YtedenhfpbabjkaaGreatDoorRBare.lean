/-
  withoutBlanks, bare: a text without its blanks. By an AI agent.
-/
import Derived.Test.YtedenhfpbabjkaaGreatDoorRNearMath
import Derived.Test.YtedenhfpbabjkaaGreatDoorRRCompare
namespace Go.Proofs.YtedenhfpbabjkaaGreatDoor
open Go.RowKit
set_option linter.unusedVariables false

/-- The library's own number holds some number. -/
structure Mx (w : World) : Prop where
  max : ∃ m, w.cell? ⟨1, 0, none⟩ = some (.int .i64 m)
theorem cell_lt {w : World} {g : Nat} {v : Value} (h : w.cell? ⟨g, 0, none⟩ = some v) : g < w.heap.size := by
  rcases Nat.lt_or_ge g w.heap.size with hlt | hge
  · exact hlt
  · exfalso
    have hn : w.heap[g]? = none := Array.getElem?_eq_none hge
    simp [World.cell?, hn] at h
theorem Mx.below {w w' : World} (h : Mx w) (hb : Below w.heap.size w w') : Mx w' := by
  obtain ⟨m, hm⟩ := h.max
  exact ⟨m, (hb.cell (p := ⟨1, 0, none⟩) (cell_lt hm)).trans hm⟩

set_option maxRecDepth 100000 in
set_option maxHeartbeats 8000000 in
theorem without_any (s : ByteArray) (h200 : s.size ≤ 200) (w : World) (hM : Mx w) :
    Calls Tryz.prog 27 #[.string s] w fun e w' => e = .returned (.string (txt (bareL s.data.toList))) ∧ Below w.heap.size w w' := by
  obtain ⟨m, hm⟩ := hM.max
  have hR := Tryz.strings_ReplaceAll s ⟨#[32]⟩ ⟨#[]⟩ m w (by omega) hm (by decide) (by
    have : (⟨#[]⟩ : ByteArray).size = 0 := rfl
    rw [this]; omega)
  rw [show (⟨#[32]⟩ : ByteArray).data.toList = [32] from rfl, show (⟨#[]⟩ : ByteArray).data.toList = [] from rfl, replace_bare] at hR
  have hx : (⟨(bareL s.data.toList).toArray⟩ : ByteArray) = txt (bareL s.data.toList) := rfl
  rw [hx] at hR
  generalize txt (bareL s.data.toList) = X at *
  go_enter Tryz.func27, Tryz.ntmps27
  go_wp2_with (go_at_call 50; fail)
  refine hR.mono ?_
  rintro e w1 ⟨rfl, hb⟩
  go_wp2
  go_ret
  exact ⟨rfl, hb⟩

theorem bare_take {l : List UInt8} {i : Nat} {x : UInt8} (h : l[i]? = some x) : bareL (l.take (i + 1)) = if x = 32 then bareL (l.take i) else bareL (l.take i) ++ [x] := by
  rw [List.take_add_one, h]
  simp only [Option.toList_some, bare_app]
  split
  · rename_i hx; subst hx; simp [bareL]
  · rename_i hx; simp [bareL, hx]

set_option maxRecDepth 100000 in
set_option maxHeartbeats 8000000 in
theorem bare_any (s : ByteArray) (h200 : s.size ≤ 200) (w : World) :
    Calls Tryz.prog 29 #[.string s] w fun e w' => e = .returned (.string (txt (bareL s.data.toList))) ∧ Below w.heap.size w w' := by
  have hL := hide (Lib.size_eq s)
  have hat : ∀ (i : Nat) (hi : i < s.size), s.data.toList[i]? = some s[i] := fun i hi => Lib.data_getElem? s i hi
  generalize hl : s.data.toList = l at *
  replace hl := hide hl
  replace hat := hide hat
  go_enter Tryz.func29, Tryz.ntmps29
  go_wp2
  go_loopg [3, 4] s.size (fun k s3 s4 wx => ∃ (i : Nat) (o : List UInt8), i + k = s.size ∧ s4 = .int .i64 (i : Int) ∧ Hid (o = bareL (l.take i)) ∧ wx.ownsRow w.heap.size 5 1 s3 o.length (bys o) ∧ Below w.heap.size w wx)
  case atStart => exact ⟨0, [], by omega, rfl, hide rfl, World.ownsRow_nil _ _ _ _, Below.refl _ _⟩
  case round =>
    obtain ⟨i, o, hig, rfl, ho, hor, hbr⟩ := hrel
    cases gk with
    | zero =>
      obtain rfl : i = s.size := by omega
      have hiz : ¬ ((s.size : Int) < (s.size : Int)) := by omega
      obtain ⟨A, c, rfl, hnc, hHas⟩ := own_form hor
      have htx := txt8 wr c hHas
      have hR : Hid (txt o = txt (bareL l)) := hide (by
        rw [ho.out, List.take_of_length_le (by rw [← hL.out]; exact Nat.le_refl _)])
      generalize txt o = X at *
      clear ho hHas hor
      go_wp2
      go_ret
      exact ⟨by rw [← hR.out]; rfl, hbr⟩
    | succ k =>
      have hi : i < s.size := by omega
      have hiz : (i : Int) < (s.size : Int) := by omega
      obtain ⟨x, hx⟩ : ∃ x : UInt8, s[i]'hi = x := ⟨_, rfl⟩
      have hxl : l[i]? = some x := by rw [hat.out i hi, hx]
      have htk := bare_take hxl
      have ho200 : Hid (o.length ≤ 200) := hide (by
        rw [ho.out]
        have := bare_le (l.take i)
        rw [List.length_take] at this
        omega)
      clear hxl
      by_cases hx32 : x = 32
      · subst hx32
        have hne : (((32 : UInt8).toNat : Int) == 32) = true := rfl
        rw [if_pos rfl, ← ho.out] at htk
        replace htk := hide htk
        go_wp2
        go_roundg k
        case measure => omega
        case rel => exact ⟨i + 1, o, by omega, by go_num, hide htk.out.symm, hor, hbr⟩
      · have hne : ((x.toNat : Int) == 32) = false := beq_false_of_ne (fun h => hx32 (u8_ext (by have : (32 : UInt8).toNat = 32 := rfl; omega)))
        rw [if_neg hx32, ← ho.out] at htk
        replace htk := hide htk
        obtain ⟨A, c, rfl, hnc, hHas⟩ := own_form hor
        have hone := one8 wr x
        unfold c8 at hone
        have hH := Has.own hone
        have hor1 := hor.alloc (.cells #[.int .u8 (x.toNat : Int)] 5)
        have hbr1 := hbr.alloc hbr.size (.cells #[.int .u8 (x.toNat : Int)] 5)
        have hs1 := hbr1.size
        clear hone hor hbr hHas hnc
        go_wp2_with (at_builtin; go_must (refine app8 _ rfl (.tmp 15) (.tmp 19) rfl w.heap.size _ _ o rfl hor1 _ _ 1 1 [x] rfl hH (by have := ho200.out; omega) hs1 ?_))
        intro v' w3 hown3 hb3 _
        have hb4 := hbr1.trans hb3
        clear hor1 hbr1 hs1 hH hb3
        go_wp2
        go_roundg k
        case measure => omega
        case rel => exact ⟨i + 1, o ++ [x], by omega, by go_num, hide htk.out.symm, by simpa using hown3, hb4⟩

end Go.Proofs.YtedenhfpbabjkaaGreatDoor
