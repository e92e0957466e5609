/-
  strconv.ParseUint at two bytes, base 16, eight bits. By an AI agent.
-/
import Derived.Test.YtihoachcpabkeaaGreatDoorPHex
import Derived.Test.YtihoachcpabkeaaGreatDoorMC
namespace Go.Proofs.YtihoachcpabkeaaGreatDoor
open Go.RowKit
set_option linter.unusedVariables false

theorem nib_yes {n : Nat} {x : Int} (h : n < 16) (h0 : 0 ≤ x) (h1 : x < 16) : IntKind.u64.wrap ((n : Int) * 16 + x) = (n : Int) * 16 + x := by
  rw [IntKind.wrap_u64]; omega

/-- What the library answers, from what two digits stand for. -/
def uintV : Option Nat → Value
  | some n => .tuple #[.int .u64 (n : Int), .nilIface]
  | none => .tuple #[.int .u64 0, .iface 150 (.int .i64 2)]

set_option maxRecDepth 100000 in
set_option maxHeartbeats 32000000 in
theorem uint_in (s : ByteArray) (d f : UInt8) (hs : s.data.toList = [d, f]) (w : World) :
    Calls Tryz.prog 125 #[.string s, .int .i64 16, .int .i64 8] w fun e w' =>
      e = .returned (uintV (hex2 d f)) ∧ Below w.heap.size w w' := by
  obtain ⟨R, hRV⟩ : ∃ R, uintV (hex2 d f) = R := ⟨_, rfl⟩
  rw [hRV]
  replace hRV := hide hRV
  have hsz : s.size = 2 := by rw [Lib.size_eq, hs]; rfl
  have hemp : s.toList.isEmpty = false := by rw [Lib.toList_data, hs]; rfl
  have hcv := Lib.run_convert_string_bytes (P := Tryz.prog) w 9 47 5 s (u := .string) Tryz.underlying9 Tryz.underlying47 Tryz.underlying5
  have hB0 := Lib.bytesWorld_cell w 5 s 0 (by omega)
  have hB1 := Lib.bytesWorld_cell w 5 s 1 (by omega)
  have hbl := Lib.bytesWorld_below w 5 s
  rw [hs] at hB0 hB1
  simp only [List.getD_cons_zero, List.getD_cons_succ] at hB0 hB1
  obtain ⟨W1, hW1⟩ : ∃ W1, W1 = Lib.bytesWorld w 5 s := ⟨_, rfl⟩
  rw [← hW1] at hcv hB0 hB1 hbl
  rw [hsz] at hcv
  clear hW1
  replace hs := hide hs
  go_enter Tryz.func125, Tryz.ntmps125
  go_wp2
  go_loopg [12, 13, 101] 2 (fun k s12 s13 s101 wx => ∃ (i n : Nat) (m : Int), i + k = 2 ∧ s12 = .bool false ∧ s13 = .int .u64 m ∧ s101 = .int .i64 (i : Int) ∧ wx = W1 ∧ Hid (m = (n : Int) ∧ HexAt d f i n))
  case atStart => exact ⟨0, 0, 0, by omega, rfl, rfl, rfl, rfl, hide ⟨rfl, fun _ => rfl, by omega, by omega, by omega, by omega⟩⟩
  case round =>
    obtain ⟨i, n, m, hig, rfl, rfl, rfl, rfl, hA0⟩ := hrel
    have hmn := hA0.out.1
    have hA := hide hA0.out.2
    clear hA0
    cases gk with
    | zero =>
      obtain rfl : i = 2 := by omega
      subst hmn
      have hR : Hid (R = .tuple #[.int .u64 (n : Int), .nilIface]) := hide (by
        obtain ⟨a, b, h1, h2, h3⟩ := hA.out.two rfl
        rw [← hRV.out]
        unfold hex2
        rw [h1, h2, h3]; rfl)
      clear hA hB0 hB1 hRV
      go_wp2
      go_ret2
      exact ⟨by rw [hR.out]; rfl, hbl⟩
    | succ k =>
      have hn16 : n < 16 := hA.out.less (by omega)
      have hm0 : 0 ≤ m := by omega
      have hm1 : m < 16 := by omega
      have hcut : ¬ ((1152921504606846976 : Int) ≤ m) := by omega
      have hi01 : i = 0 ∨ i = 1 := by omega
      rcases hi01 with rfl | rfl
      · obtain rfl : k = 1 := by omega
        obtain rfl : n = 0 := hA.out.zero rfl
        obtain rfl : m = 0 := by omega
        have hX := hex_is d
        have hlow := fun w => lowerc_any (d.toNat : Int) w
        have hlt := d.toNat_lt
        clear hB1
        generalize hL : bits BinOp.or IntKind.u8 (d.toNat : Int) 32 = L at *
        generalize hz : d.toNat = z at *
        have hv0 : 0 ≤ L := by rw [← hL]; exact bits_lo_u8 .or _ 32
        have hv1 : L ≤ 255 := by rw [← hL]; exact bits_hi_u8 .or _ 32
        cases hX with
        | fig h0 h1 e =>
          rw [hz] at h0 h1 e
          have hH : Hid (HexAt d f 1 (16 * 0 + (z - 48))) := hide (by have := HexAt.first (e := f) e; simpa using this)
          have z0 : (48 : Int) ≤ (z : Int) := by omega
          have z1 : (z : Int) ≤ 57 := by omega
          have z2 : ¬ ((16 : Int) ≤ (z : Int) - 48) := by omega
          have hnz : Hid (0 * 16 + ((z : Int) - 48) = ((16 * 0 + (z - 48) : Nat) : Int)) := hide (by omega)
          have hov : ¬ ((255 : Int) < 0 * 16 + ((z : Int) - 48)) := by omega
          clear e hA hL hz hRV hlow hmn hn16
          go_wp2
          go_roundg 1
          case measure => omega
          case rel => exact ⟨1, 16 * 0 + (z - 48), 0 * 16 + ((z : Int) - 48), by omega, rfl, by go_num, by go_num, rfl, hide ⟨hnz.out, hH.out⟩⟩
        | ltr h h0 h1 h2 e =>
          rw [hz] at h
          have hH : Hid (HexAt d f 1 (16 * 0 + (L - 87).toNat)) := hide (by have := HexAt.first (e := f) e; simpa using this)
          have hnz : Hid (0 * 16 + (L - 87) = ((16 * 0 + (L - 87).toNat : Nat) : Int)) := hide (by omega)
          have hov : ¬ ((255 : Int) < 0 * 16 + (L - 87)) := by omega
          have h95 : z ≠ 95 := by
            rintro rfl
            have : d = 95 := UInt8.toNat_inj.1 hz
            rw [this] at e
            cases e
          have z95 : ((z : Int) == 95) = false := beq_false_of_ne (by omega)
          clear e hA hL hz hRV hmn hn16
          rcases h with h | h
          · have z0 : ¬ ((48 : Int) ≤ (z : Int)) := by omega
            go_wp2_with (go_at_call 142; refine (hlow _).mono ?_; rintro e w' ⟨rfl, hw⟩; obtain rfl := hw.symm)
            all_goals
              go_roundg 1
              case measure => omega
              case rel => exact ⟨1, 16 * 0 + (L - 87).toNat, 0 * 16 + (L - 87), by omega, rfl, by go_num, by go_num, rfl, hide ⟨hnz.out, hH.out⟩⟩
          · have z0 : ¬ ((z : Int) ≤ 57) := by omega
            have z1 : ((48 : Int) ≤ (z : Int)) := by omega
            go_wp2_with (go_at_call 142; refine (hlow _).mono ?_; rintro e w' ⟨rfl, hw⟩; obtain rfl := hw.symm)
            all_goals
              go_roundg 1
              case measure => omega
              case rel => exact ⟨1, 16 * 0 + (L - 87).toNat, 0 * 16 + (L - 87), by omega, rfl, by go_num, by go_num, rfl, hide ⟨hnz.out, hH.out⟩⟩
        | far h h0 h1 h2 e =>
          rw [hz] at h
          have hR : Hid (R = .tuple #[.int .u64 0, .iface 150 (.int .i64 2)]) := hide (by
            rw [← hRV.out]
            unfold hex2
            rw [e]
            rfl)
          have m0 : (16 : Int) ≤ L - 87 := by omega
          clear e hA hL hz hRV hmn hn16
          rcases h with h | h
          · have z0 : ¬ ((48 : Int) ≤ (z : Int)) := by omega
            have z95 : ((z : Int) == 95) = false := beq_false_of_ne (by omega)
            go_wp2_with (go_at_call 142; refine (hlow _).mono ?_; rintro e w' ⟨rfl, hw⟩; obtain rfl := hw.symm)
            all_goals go_ret2
            all_goals exact ⟨by rw [hR.out]; rfl, hbl⟩
          · by_cases h95 : z = 95
            · subst h95
              clear h hlt
              go_wp2_with (go_at_call 142; refine (hlow _).mono ?_; rintro e w' ⟨rfl, hw⟩; obtain rfl := hw.symm)
              all_goals go_ret2
              all_goals exact ⟨by rw [hR.out]; rfl, hbl⟩
            · have z95 : ((z : Int) == 95) = false := beq_false_of_ne (by omega)
              have z0 : ¬ ((z : Int) ≤ 57) := by omega
              have z1 : ((48 : Int) ≤ (z : Int)) := by omega
              go_wp2_with (go_at_call 142; refine (hlow _).mono ?_; rintro e w' ⟨rfl, hw⟩; obtain rfl := hw.symm)
              all_goals go_ret2
              all_goals exact ⟨by rw [hR.out]; rfl, hbl⟩
        | low h h0 e =>
          rw [hz] at h
          have hR : Hid (R = .tuple #[.int .u64 0, .iface 150 (.int .i64 2)]) := hide (by
            rw [← hRV.out]
            unfold hex2
            rw [e]
            rfl)
          have m0 : ¬ ((97 : Int) ≤ L) := by omega
          clear e hA hL hz hRV hmn hn16
          rcases h with h | h
          · have z0 : ¬ ((48 : Int) ≤ (z : Int)) := by omega
            have z95 : ((z : Int) == 95) = false := beq_false_of_ne (by omega)
            go_wp2_with (go_at_call 142; refine (hlow _).mono ?_; rintro e w' ⟨rfl, hw⟩; obtain rfl := hw.symm)
            all_goals go_ret2
            all_goals exact ⟨by rw [hR.out]; rfl, hbl⟩
          · by_cases h95 : z = 95
            · subst h95
              clear h hlt
              go_wp2_with (go_at_call 142; refine (hlow _).mono ?_; rintro e w' ⟨rfl, hw⟩; obtain rfl := hw.symm)
              all_goals go_ret2
              all_goals exact ⟨by rw [hR.out]; rfl, hbl⟩
            · have z95 : ((z : Int) == 95) = false := beq_false_of_ne (by omega)
              have z0 : ¬ ((z : Int) ≤ 57) := by omega
              have z1 : ((48 : Int) ≤ (z : Int)) := by omega
              go_wp2_with (go_at_call 142; refine (hlow _).mono ?_; rintro e w' ⟨rfl, hw⟩; obtain rfl := hw.symm)
              all_goals go_ret2
              all_goals exact ⟨by rw [hR.out]; rfl, hbl⟩
        | high h h0 h1 e =>
          rw [hz] at h
          have hR : Hid (R = .tuple #[.int .u64 0, .iface 150 (.int .i64 2)]) := hide (by
            rw [← hRV.out]
            unfold hex2
            rw [e]
            rfl)
          have m0 : ¬ (L ≤ 122) := by omega
          clear e hA hL hz hRV hmn hn16
          rcases h with h | h
          · have z0 : ¬ ((48 : Int) ≤ (z : Int)) := by omega
            have z95 : ((z : Int) == 95) = false := beq_false_of_ne (by omega)
            go_wp2_with (go_at_call 142; refine (hlow _).mono ?_; rintro e w' ⟨rfl, hw⟩; obtain rfl := hw.symm)
            all_goals go_ret2
            all_goals exact ⟨by rw [hR.out]; rfl, hbl⟩
          · by_cases h95 : z = 95
            · subst h95
              clear h hlt
              go_wp2_with (go_at_call 142; refine (hlow _).mono ?_; rintro e w' ⟨rfl, hw⟩; obtain rfl := hw.symm)
              all_goals go_ret2
              all_goals exact ⟨by rw [hR.out]; rfl, hbl⟩
            · have z95 : ((z : Int) == 95) = false := beq_false_of_ne (by omega)
              have z0 : ¬ ((z : Int) ≤ 57) := by omega
              have z1 : ((48 : Int) ≤ (z : Int)) := by omega
              go_wp2_with (go_at_call 142; refine (hlow _).mono ?_; rintro e w' ⟨rfl, hw⟩; obtain rfl := hw.symm)
              all_goals go_ret2
              all_goals exact ⟨by rw [hR.out]; rfl, hbl⟩
      · obtain rfl : k = 0 := by omega


        have hX := hex_is f
        have hlow := fun w => lowerc_any (f.toNat : Int) w
        have hlt := f.toNat_lt
        clear hB0
        generalize hL : bits BinOp.or IntKind.u8 (f.toNat : Int) 32 = L at *
        generalize hz : f.toNat = z at *
        have hv0 : 0 ≤ L := by rw [← hL]; exact bits_lo_u8 .or _ 32
        have hv1 : L ≤ 255 := by rw [← hL]; exact bits_hi_u8 .or _ 32
        cases hX with
        | fig h0 h1 e =>
          rw [hz] at h0 h1 e
          have hH : Hid (HexAt d f 2 (16 * n + (z - 48))) := hide (hA.out.second e)
          have z0 : (48 : Int) ≤ (z : Int) := by omega
          have z1 : (z : Int) ≤ 57 := by omega
          have z2 : ¬ ((16 : Int) ≤ (z : Int) - 48) := by omega
          have hnz : Hid (m * 16 + ((z : Int) - 48) = ((16 * n + (z - 48) : Nat) : Int)) := hide (by omega)
          have hov : ¬ ((255 : Int) < m * 16 + ((z : Int) - 48)) := by omega
          clear e hA hL hz hRV hlow hmn hn16
          go_wp2
          go_roundg 0
          case measure => omega
          case rel => exact ⟨2, 16 * n + (z - 48), m * 16 + ((z : Int) - 48), by omega, rfl, by go_num, by go_num, rfl, hide ⟨hnz.out, hH.out⟩⟩
        | ltr h h0 h1 h2 e =>
          rw [hz] at h
          have hH : Hid (HexAt d f 2 (16 * n + (L - 87).toNat)) := hide (hA.out.second e)
          have hnz : Hid (m * 16 + (L - 87) = ((16 * n + (L - 87).toNat : Nat) : Int)) := hide (by omega)
          have hov : ¬ ((255 : Int) < m * 16 + (L - 87)) := by omega
          have h95 : z ≠ 95 := by
            rintro rfl
            have : f = 95 := UInt8.toNat_inj.1 hz
            rw [this] at e
            cases e
          have z95 : ((z : Int) == 95) = false := beq_false_of_ne (by omega)
          clear e hA hL hz hRV hmn hn16
          rcases h with h | h
          · have z0 : ¬ ((48 : Int) ≤ (z : Int)) := by omega
            go_wp2_with (go_at_call 142; refine (hlow _).mono ?_; rintro e w' ⟨rfl, hw⟩; obtain rfl := hw.symm)
            all_goals
              go_roundg 0
              case measure => omega
              case rel => exact ⟨2, 16 * n + (L - 87).toNat, m * 16 + (L - 87), by omega, rfl, by go_num, by go_num, rfl, hide ⟨hnz.out, hH.out⟩⟩
          · have z0 : ¬ ((z : Int) ≤ 57) := by omega
            have z1 : ((48 : Int) ≤ (z : Int)) := by omega
            go_wp2_with (go_at_call 142; refine (hlow _).mono ?_; rintro e w' ⟨rfl, hw⟩; obtain rfl := hw.symm)
            all_goals
              go_roundg 0
              case measure => omega
              case rel => exact ⟨2, 16 * n + (L - 87).toNat, m * 16 + (L - 87), by omega, rfl, by go_num, by go_num, rfl, hide ⟨hnz.out, hH.out⟩⟩
        | far h h0 h1 h2 e =>
          rw [hz] at h
          have hR : Hid (R = .tuple #[.int .u64 0, .iface 150 (.int .i64 2)]) := hide (by
            rw [← hRV.out]
            unfold hex2
            rw [e]
            cases hexV d <;> rfl)
          have m0 : (16 : Int) ≤ L - 87 := by omega
          clear e hA hL hz hRV hmn hn16
          rcases h with h | h
          · have z0 : ¬ ((48 : Int) ≤ (z : Int)) := by omega
            have z95 : ((z : Int) == 95) = false := beq_false_of_ne (by omega)
            go_wp2_with (go_at_call 142; refine (hlow _).mono ?_; rintro e w' ⟨rfl, hw⟩; obtain rfl := hw.symm)
            all_goals go_ret2
            all_goals exact ⟨by rw [hR.out]; rfl, hbl⟩
          · by_cases h95 : z = 95
            · subst h95
              clear h hlt
              go_wp2_with (go_at_call 142; refine (hlow _).mono ?_; rintro e w' ⟨rfl, hw⟩; obtain rfl := hw.symm)
              all_goals go_ret2
              all_goals exact ⟨by rw [hR.out]; rfl, hbl⟩
            · have z95 : ((z : Int) == 95) = false := beq_false_of_ne (by omega)
              have z0 : ¬ ((z : Int) ≤ 57) := by omega
              have z1 : ((48 : Int) ≤ (z : Int)) := by omega
              go_wp2_with (go_at_call 142; refine (hlow _).mono ?_; rintro e w' ⟨rfl, hw⟩; obtain rfl := hw.symm)
              all_goals go_ret2
              all_goals exact ⟨by rw [hR.out]; rfl, hbl⟩
        | low h h0 e =>
          rw [hz] at h
          have hR : Hid (R = .tuple #[.int .u64 0, .iface 150 (.int .i64 2)]) := hide (by
            rw [← hRV.out]
            unfold hex2
            rw [e]
            cases hexV d <;> rfl)
          have m0 : ¬ ((97 : Int) ≤ L) := by omega
          clear e hA hL hz hRV hmn hn16
          rcases h with h | h
          · have z0 : ¬ ((48 : Int) ≤ (z : Int)) := by omega
            have z95 : ((z : Int) == 95) = false := beq_false_of_ne (by omega)
            go_wp2_with (go_at_call 142; refine (hlow _).mono ?_; rintro e w' ⟨rfl, hw⟩; obtain rfl := hw.symm)
            all_goals go_ret2
            all_goals exact ⟨by rw [hR.out]; rfl, hbl⟩
          · by_cases h95 : z = 95
            · subst h95
              clear h hlt
              go_wp2_with (go_at_call 142; refine (hlow _).mono ?_; rintro e w' ⟨rfl, hw⟩; obtain rfl := hw.symm)
              all_goals go_ret2
              all_goals exact ⟨by rw [hR.out]; rfl, hbl⟩
            · have z95 : ((z : Int) == 95) = false := beq_false_of_ne (by omega)
              have z0 : ¬ ((z : Int) ≤ 57) := by omega
              have z1 : ((48 : Int) ≤ (z : Int)) := by omega
              go_wp2_with (go_at_call 142; refine (hlow _).mono ?_; rintro e w' ⟨rfl, hw⟩; obtain rfl := hw.symm)
              all_goals go_ret2
              all_goals exact ⟨by rw [hR.out]; rfl, hbl⟩
        | high h h0 h1 e =>
          rw [hz] at h
          have hR : Hid (R = .tuple #[.int .u64 0, .iface 150 (.int .i64 2)]) := hide (by
            rw [← hRV.out]
            unfold hex2
            rw [e]
            cases hexV d <;> rfl)
          have m0 : ¬ (L ≤ 122) := by omega
          clear e hA hL hz hRV hmn hn16
          rcases h with h | h
          · have z0 : ¬ ((48 : Int) ≤ (z : Int)) := by omega
            have z95 : ((z : Int) == 95) = false := beq_false_of_ne (by omega)
            go_wp2_with (go_at_call 142; refine (hlow _).mono ?_; rintro e w' ⟨rfl, hw⟩; obtain rfl := hw.symm)
            all_goals go_ret2
            all_goals exact ⟨by rw [hR.out]; rfl, hbl⟩
          · by_cases h95 : z = 95
            · subst h95
              clear h hlt
              go_wp2_with (go_at_call 142; refine (hlow _).mono ?_; rintro e w' ⟨rfl, hw⟩; obtain rfl := hw.symm)
              all_goals go_ret2
              all_goals exact ⟨by rw [hR.out]; rfl, hbl⟩
            · have z95 : ((z : Int) == 95) = false := beq_false_of_ne (by omega)
              have z0 : ¬ ((z : Int) ≤ 57) := by omega
              have z1 : ((48 : Int) ≤ (z : Int)) := by omega
              go_wp2_with (go_at_call 142; refine (hlow _).mono ?_; rintro e w' ⟨rfl, hw⟩; obtain rfl := hw.symm)
              all_goals go_ret2
              all_goals exact ⟨by rw [hR.out]; rfl, hbl⟩

end Go.Proofs.YtihoachcpabkeaaGreatDoor
