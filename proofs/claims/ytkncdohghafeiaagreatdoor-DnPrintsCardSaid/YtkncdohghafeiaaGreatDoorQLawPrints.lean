/-
  The walk of DnPrints: whatever the parts, true. By an AI agent.
-/
import Derived.Test.YtkncdohghafeiaaGreatDoorQPrint
namespace Go.Proofs.YtkncdohghafeiaaGreatDoor
open Go.RowKit
set_option linter.unusedVariables false

/-- A short pair. -/
def ShortA (a : P2) : Prop := a.1.length ≤ 3000 ∧ a.2.length ≤ 3000
instance (a : P2) : Decidable (ShortA a) := by unfold ShortA; exact inferInstance

theorem few_pair (a : P2) (b : Bool) (hb : b = true ↔ ShortA a) (w : World) (h : Nat) (hS : Strs6 w h [txt a.1, txt a.2]) :
    Calls Tryz.prog 11 #[.slice (some ⟨h, 0, none⟩) 2 2] w fun e w' => e = .returned (.bool b) ∧ w' = w :=
  few6_any h [txt a.1, txt a.2] b (by rw [hb]; unfold ShortA; simp [txt_size]) (by simp) w hS 2 rfl 2

set_option maxRecDepth 100000 in
set_option maxHeartbeats 64000000 in
theorem prints_law (w : World) (A : Option Addr) (n c : Nat) (vs : List Value) (L : List (List P2)) (hA : Has w w.heap.size 1 A n vs) (hL : Rows2 w w.heap.size vs L) (hT : TM w) :
    Calls Tryz.prog 4 #[.slice A n c] w fun e w' => e = .returned (.bool true) ∧ Below w.heap.size w w' := by
  have h1 : n = L.length := by have := hA.1; rw [hL.len] at this; omega
  by_cases h40 : 40 < n
  · have z1 : ((40 : Int) < (n : Int)) := by omega
    clear hA hL h1
    go_enter Tryz.func4, Tryz.ntmps4
    go_wp2_with (go_at_call 10; fail)
    refine (awake6_any _ hT).mono ?_
    rintro e w1 ⟨rfl, hb1⟩
    go_wp2_with (go_at_call 10; fail)
    refine (awake6_any _ (hT.below hb1)).mono ?_
    rintro e w2 ⟨rfl, hb2⟩
    have hc2 := hb1.trans (hb2.mono hb1.size)
    clear hb1 hb2
    go_wp2
    go_ret
    exact ⟨rfl, hc2⟩
  · have z1 : ¬ ((40 : Int) < (n : Int)) := by omega
    have HA := hide hA
    have HL := hide hL
    have H1 := hide h1
    clear hA hL h1
    go_enter Tryz.func4, Tryz.ntmps4
    go_wp2_with (go_at_call 10; fail)
    refine (awake6_any _ hT).mono ?_
    rintro e w1 ⟨rfl, hb1⟩
    have hN := hide (Nx.new w1 (.slice none 0 0) 26)
    have hba := below1 w1 (.cells #[.slice none 0 0] 26)
    have hbw := hide (hb1.trans (hba.mono hb1.size))
    have hsz := hide (show w1.heap.size + 1 ≤ (w1.alloc (.cells #[.slice none 0 0] 26)).heap.size by simp)
    have hwl : w.heap.size ≤ w1.heap.size := hb1.size
    have hRO := RowOf.start (nil_own (w1.alloc (.cells #[.slice none 0 0] 26)) (w1.heap.size + 1) 37 1)
    clear hba hb1
    go_wp2
    go_loopg [23] n (fun r s23 wx => ∃ (i : Nat) (v : Value) (us : List Value), i + r = n ∧ s23 = .int .i64 (i : Int) ∧ RowOf wx (w1.heap.size + 1) 37 v us (L.take i) ∧ Hid (Nx wx w1.heap.size v) ∧ Hid (Below w.heap.size w wx) ∧ Hid (w1.heap.size + 1 ≤ wx.heap.size) ∧ Hid (∀ p ∈ L.take i, p.length ≤ 10 ∧ ∀ a ∈ p, ShortA a))
    case atStart => exact ⟨0, .slice none 0 0, [], by omega, rfl, hRO, hN, hbw, hsz, hide fun p hp => (by simp at hp)⟩
    case round =>
      obtain ⟨i, v, us, hig, rfl, hro, hNx, hB, hS, hsh⟩ := hrel
      clear hRO hN hbw hsz
      cases gk with
      | zero =>
        obtain rfl : i = n := by omega
        have hiz : ¬ ((i : Int) < (i : Int)) := by omega
        have hLt : L.take i = L := List.take_of_length_le (by rw [← H1.out]; exact Nat.le_refl _)
        rw [hLt] at hro hsh
        have hF : Few6 L := ⟨by rw [← H1.out]; omega, fun p hp => (hsh.out p hp).1, fun p hp a ha => (hsh.out p hp).2 a ha⟩
        obtain ⟨A3, c3, rfl, _, hH3⟩ := own_form hro.own
        have hc1 := hB.out
        have hTr := hT.below hc1
        obtain ⟨n0, _, _⟩ := hNx.out
        rw [← H1.out] at n0 hH3
        have hP := pprintname_any wr A3 i c3 us L hH3 hro.rows hF hTr.tt
        have HF := hide hF
        clear hLt hsh hro hNx hB hS hH3 hTr hF
        go_wp2_with (go_at_call 17; fail)
        refine hP.mono ?_
        rintro e w4 ⟨rfl, hb4⟩
        have hc4 := hc1.trans (hb4.mono hc1.size)
        have hQ := rprintname_any w4 A i c vs L ((HA.out.below hc4).upto hc4.size) ((HL.out.below hc4).upto hc4.size) HF.out (hT.below hc4).tt
        clear hP hb4 hc1 n0
        go_wp2_with (go_at_call 18; fail)
        refine hQ.mono ?_
        rintro e w5 ⟨rfl, hb5⟩
        have hc5 := hc4.trans (hb5.mono hc4.size)
        clear hQ hb5 hc4
        by_cases hy : (printN L).2 = 0
        · obtain ⟨hv, hvl⟩ := print_back hy
          have hM := pname_any (printN L).1 (by omega) w5 (hT.below hc5)
          rw [hv] at hM
          rw [hy]
          obtain ⟨X, hX⟩ : ∃ X, txt (printN L).1 = X := ⟨_, rfl⟩
          rw [hX] at hM ⊢
          have hsz : ∀ p ∈ L, p.length ≤ 1000000 := fun p hp => by have := HF.out.each p hp; omega
          have HSz := hide hsz
          clear hv hvl hy hX hsz
          go_wp2_with (go_at_call 12; fail)
          refine hM.mono ?_
          rintro e w6 hpost
          obtain ⟨A6, c6, vs6, rfl, hH6, hR6, hb6⟩ := hpost.out
          simp only [Option.getD_some] at hH6 hR6
          rw [← H1.out] at hH6
          simp only [Option.getD_some, show L.length = i from H1.out.symm]
          have hc6 := hc5.trans (hb6.mono hc5.size)
          have hba := below1 w6 (.cells #[.slice A6 i c6] 26)
          have hc7 := hc6.trans (hba.mono hc6.size)
          obtain ⟨m0, _, _⟩ := Nx.new w6 (.slice A6 i c6) 26
          have hSm := same6_any (w6.alloc (.cells #[.slice A6 i c6] 26)) A6 A i c6 i c vs6 vs L L ((hH6.below hba).upto hba.size) (hR6.grow hba) ((HA.out.below hc7).upto hc7.size) ((HL.out.below hc7).upto hc7.size) true ⟨fun _ => rfl, fun _ => rfl⟩ (by omega) HSz.out
          clear hM hpost hb6 hc5 hH6 hR6 hba hc6
          go_wp2_with (go_at_call 16; fail)
          refine hSm.mono ?_
          rintro e w8 ⟨rfl, hb8⟩
          have hc8 := hc7.trans (hb8.mono hc7.size)
          clear hSm hb8 hc7 m0
          go_wp2
          go_ret
          exact ⟨rfl, hc8⟩
        · have hy1 : ((printN L).2 == 0) = false := beq_false_of_ne hy
          have hy2 : ((printN L).2 != 0) = true := by unfold bne; rw [hy1]; rfl
          generalize txt (printN L).1 = X at *
          generalize (printN L).2 = y at *
          clear hy
          go_wp2
          go_ret
          exact ⟨rfl, hc5⟩
      | succ r =>
        have hi : i < n := by omega
        have hiz : (i : Int) < (n : Int) := by omega
        obtain ⟨p, hp⟩ : ∃ p, L[i]? = some p := ⟨_, List.getElem?_eq_getElem (by rw [← H1.out]; exact hi)⟩
        obtain ⟨Ai, ci, hvi, hHi⟩ := HL.out.each i p hp
        obtain ⟨g, o, hAe, hg, ha0⟩ := HA.out.slot hvi
        subst hAe
        obtain ⟨m, hm⟩ : ∃ m, p.length = m := ⟨_, rfl⟩
        rw [hm] at ha0 hHi
        have cs0 := (hB.out.cell (p := ⟨g, o + i, none⟩) hg).trans ha0
        have hB1 := hB.out
        by_cases h10 : 10 < m
        · have z10 : ((10 : Int) < (m : Int)) := by omega
          clear hro hNx hB hS hsh hp hvi hHi ha0 hm
          go_wp2
          go_ret
          exact ⟨rfl, hB1⟩
        · have z10 : ¬ ((10 : Int) < (m : Int)) := by omega
          have Hp := hide hp
          have Hm := hide hm
          have HHi := hide hHi
          have Ha0 := hide ha0
          have HRo := hide hro
          have hlen : Hid ((L.take i).length = i) := hide (by rw [List.length_take, ← H1.out]; omega)
          have horm := nil_own wr wr.heap.size 41 2
          clear hp hm hHi ha0 hvi hro
          obtain ⟨wo, hwo⟩ : ∃ wo, wo = wr := ⟨_, rfl⟩
          subst hwo
          go_wp2
          go_loopg [5, 37] m (fun k s5 s37 wx => ∃ j : Nat, j + k = m ∧ s37 = .int .i64 (j : Int) ∧ wx.ownsRow wo.heap.size 41 2 s5 j (prs (p.take j)) ∧ Hid (Below wo.heap.size wo wx) ∧ Hid (∀ a ∈ p.take j, ShortA a))
          case atStart => exact ⟨0, by omega, rfl, horm, hide (Below.refl _ _), hide fun a ha => (by simp at ha)⟩
          case round =>
            obtain ⟨j, hjg, rfl, hor, HI, hsa⟩ := hrel
            clear horm cs0
            have hq := hB1.trans (HI.out.mono hB1.size)
            cases gk with
            | zero =>
              obtain rfl : j = m := by omega
              have hjz : ¬ ((j : Int) < (j : Int)) := by omega
              have hpt : p.take j = p := List.take_of_length_le (by rw [Hm.out]; exact Nat.le_refl _)
              rw [hpt] at hor hsa
              have hro2 := HRo.out.below HI.out
              have hNx2 := hNx.out.below (by have := hS.out; omega) HI.out
              obtain ⟨A5, c5, rfl, _, hH5⟩ := own_form hor
              have hlo := own_low hor
              have hoff : OffP (w1.heap.size + 1) v A5 p := OffP.new HRo.out.own hS.out hlo
              have hba := below1 wr (.cells #[.slice A5 j c5] 37)
              have hro3 := hro2.below hba
              have hH6 := (hH5.below hba).upto hba.size
              have hNx3 := hNx2.below (by have := hNx2.lt; exact this) hba
              have hone := Has.own (lit1 wr (.slice A5 j c5) 37)
              have hq4 := hq.trans (hba.mono hq.size)
              have hs4 : w1.heap.size + 1 ≤ (wr.alloc (.cells #[.slice A5 j c5] 37)).heap.size := by have h1 := hS.out; have h2 := HI.out.size; have h3 := hba.size; omega
              have h1c : ∀ u ∈ [Value.slice A5 j c5], u.oneCell' = true := by simp [Value.oneCell']
              have hsh2 : Hid (∀ q ∈ L.take (i + 1), q.length ≤ 10 ∧ ∀ a ∈ q, ShortA a) := hide fun q hq' => by
                rw [List.take_add_one, Hp.out] at hq'
                rcases List.mem_append.1 hq' with hq' | hq'
                · exact hsh.out q hq'
                · obtain rfl : q = p := by simpa using hq'
                  exact ⟨by rw [Hm.out]; omega, hsa.out⟩
              have hown3 := hro3.own
              rw [hlen.out] at hown3
              have HO3 := hide hro3
              have HO6 := hide hH6
              have HOff := hide hoff
              have HN3 := hide hNx3
              have n2 := hNx2.c0
              have f2 := hNx2.f0
              have n3 := hNx3.c0
              have f3 := hNx3.f0
              obtain ⟨ys, hys⟩ : ∃ ys, us ++ [.slice A5 j c5] = ys := ⟨_, rfl⟩
              replace hys := hide hys
              have hN1 : Hid (i + 1 = i + 1) := hide rfl
              obtain ⟨N1, hN1'⟩ : ∃ N1, i + 1 = N1 := ⟨_, rfl⟩
              have hNN := hide hN1'
              have Hpt := hide hpt
              clear hor hro2 hH5 hlo hoff hba hro3 hH6 hpt hsa hsh hN1 hN1' HHi hNx2 hNx3 hNx HRo hS
              obtain ⟨Av, nv, cv, rfl⟩ : ∃ Av nv cv, v = .slice Av nv cv := by obtain ⟨a, b, h, _⟩ := own_form hown3; exact ⟨_, _, _, h⟩
              go_wp2_with (at_builtin; go_must (refine appR _ 24 37 _ 1 24 Tryz.underlying24 infoRA rfl (by omega) (by omega) rfl (.tmp 71) (.tmp 73) rfl (w1.heap.size + 1) _ i us rfl hown3 _ _ 1 1 [.slice A5 j c5] rfl hone h1c N1 ys hNN hys (by omega) hs4 ?_))
              intro v' w6 hor6 hb6 hg6 ht6
              have hro6 : RowOf w6 (w1.heap.size + 1) 37 v' ys (L.take (i + 1)) := by
                have hor7 := hor6
                rw [← hys.out, ← hNN.out] at hor7
                rw [← hys.out, List.take_add_one, Hp.out]
                have hj : j = p.length := Hm.out.symm
                subst hj
                exact RowOf.snoc (by have := HO3.out; exact this) HO6.out HOff.out (by rw [hlen.out]; exact hor7) hg6 (by simpa using ht6)
              have hNx6 := HN3.out.below (D := w1.heap.size + 1) (by omega) hb6
              obtain ⟨n6, hl6, f6⟩ := hNx6
              have hq6 := hq4.trans (hb6.mono (by omega))
              have hs6 := Nat.le_trans hs4 hb6.size
              obtain ⟨A6, c6, rfl, _, _⟩ := own_form hor6
              have hro7 := hro6.set (B0 := w1.heap.size) (by omega) (.slice A6 N1 c6)
              have hNx7 : Nx (w6.setCell ⟨w1.heap.size, 0, none⟩ (.slice A6 N1 c6)) w1.heap.size (.slice A6 N1 c6) := ⟨World.cell?_setCell_same _ _ _ n6, by simpa [World.setCell] using hl6, by rw [World.frozen?_setCell]; exact f6⟩
              have hq7 := hide (hq6.setCell (p := ⟨w1.heap.size, 0, none⟩) hwl (.slice A6 N1 c6))
              have hs7 := hide (show w1.heap.size + 1 ≤ (w6.setCell ⟨w1.heap.size, 0, none⟩ (.slice A6 N1 c6)).heap.size by simpa [World.setCell] using hs6)
              have HN7 := hide hNx7
              clear hown3 hone hq4 hs4 h1c HO3 HO6 HOff HN3 n2 f2 n3 f3 hor6 hb6 hg6 ht6 hro6 hq6 hs6 hNx7 hl6
              go_wp2
              go_roundg r
              case measure => omega
              case rel => exact ⟨i + 1, .slice A6 N1 c6, ys, by omega, by go_num, hro7, HN7, hq7, hs7, hsh2⟩
            | succ k =>
              have hj : j < m := by omega
              have hjz : (j : Int) < (m : Int) := by omega
              obtain ⟨a, ha⟩ : ∃ a, p[j]? = some a := ⟨_, List.getElem?_eq_getElem (by rw [Hm.out]; exact hj)⟩
              obtain ⟨g1, o1, hA1, hg1, hrd⟩ := HHi.out.reads (fun h => by rw [h] at ha; simp at ha)
              subst hA1
              have csl : ∀ W, Below w.heap.size w W → W.cell? ⟨g, o + i, none⟩ = some (.slice (some ⟨g1, o1, none⟩) m ci) := fun W hW => (hW.cell (p := ⟨g, o + i, none⟩) hg).trans Ha0.out
              have cw0 : ∀ W, Below w.heap.size w W → W.cell? ⟨g1, o1 + j * 2, none⟩ = some (.string (txt a.1)) := fun W hW => (hW.cell (p := ⟨g1, o1 + j * 2, none⟩) hg1).trans (hrd.fst j a ha)
              have cw1 : ∀ W, Below w.heap.size w W → W.cell? ⟨g1, o1 + j * 2 + 1, none⟩ = some (.string (txt a.2)) := fun W hW => (hW.cell (p := ⟨g1, o1 + j * 2 + 1, none⟩) hg1).trans (hrd.snd j a ha)
              have htk : Hid (prs (p.take (j + 1)) = prs (p.take j) ++ [.string (txt a.1), .string (txt a.2)]) := hide (by
                rw [List.take_add_one, ha]
                simp [prs])
              by_cases hsa1 : ShortA a
              · have hFew := fun w h hS => few_pair a true ⟨fun _ => hsa1, fun _ => rfl⟩ w h hS
                have hsa2 : Hid (∀ b ∈ p.take (j + 1), ShortA b) := hide fun b hb => by
                  rw [List.take_add_one, ha] at hb
                  rcases List.mem_append.1 hb with hb | hb
                  · exact hsa.out b hb
                  · obtain rfl : b = a := by simpa using hb
                    exact hsa1
                generalize txt a.1 = U at *
                generalize txt a.2 = V at *
                clear ha hrd hsa hsa1
                go_wp2_with fail
                refine grow_begin_at w.heap.size (by kernel_rfl) ?_
                have hdr : Below wr.heap.size wr wr.drew := (Below.refl _ _).drew
                have hq3 := hq.trans (hdr.mono hq.size)
                have hor3 := own_below hor hdr
                have HI3 := hide (HI.out.trans (hdr.mono HI.out.size))
                clear hor hq HI hdr
                generalize wr.drew = w3 at *
                refine grow_take 0 (some 40) (v := ?va0) rfl rfl (by kernel_rfl) (by kernel_rfl) (by kernel_rfl) (fun _ _ _ h => h) (by rfl) (fun W hW => ?ya0) ?_
                case ya0 =>
                  go_simp <;> with_reducible rfl
                simp only [Act.put, List.setIfInBounds_toArray, List.set_cons_zero, List.set_cons_succ]
                refine grow_take 1 (some 41) (v := ?va1) rfl rfl (by kernel_rfl) (by kernel_rfl) (by kernel_rfl) (fun _ _ _ h => h) (by rfl) (fun W hW => ?ya1) ?_
                case ya1 =>
                  go_simp <;> with_reducible rfl
                simp only [Act.put, List.setIfInBounds_toArray, List.set_cons_zero, List.set_cons_succ]
                refine grow_take 2 (some 42) (v := ?va2) rfl rfl (by kernel_rfl) (by kernel_rfl) (by kernel_rfl) (fun _ _ _ h => h) (by rfl) (fun W hW => ?ya2) ?_
                case ya2 =>
                  go_simp <;> with_reducible rfl
                simp only [Act.put, List.setIfInBounds_toArray, List.set_cons_zero, List.set_cons_succ]
                refine grow_take 3 (some 43) (v := ?va3) rfl rfl (by kernel_rfl) (by kernel_rfl) (by kernel_rfl) (fun _ _ _ h => h) (by rfl) (fun W hW => ?ya3) ?_
                case ya3 =>
                  have h1 := csl W (hq3.trans hW)
                  go_simp <;> with_reducible rfl
                simp only [Act.put, List.setIfInBounds_toArray, List.set_cons_zero, List.set_cons_succ]
                refine grow_take 4 (some 44) (v := ?va4) rfl rfl (by kernel_rfl) (by kernel_rfl) (by kernel_rfl) (fun _ _ _ h => h) (by rfl) (fun W hW => ?ya4) ?_
                case ya4 =>
                  go_simp <;> with_reducible rfl
                simp only [Act.put, List.setIfInBounds_toArray, List.set_cons_zero, List.set_cons_succ]
                refine grow_take 5 (some 45) (v := ?va5) rfl rfl (by kernel_rfl) (by kernel_rfl) (by kernel_rfl) (fun _ _ _ h => h) (by rfl) (fun W hW => ?ya5) ?_
                case ya5 =>
                  go_simp <;> with_reducible rfl
                simp only [Act.put, List.setIfInBounds_toArray, List.set_cons_zero, List.set_cons_succ]
                refine grow_take 6 (some 46) (v := ?va6) rfl rfl (by kernel_rfl) (by kernel_rfl) (by kernel_rfl) (fun _ _ _ h => h) (by rfl) (fun W hW => ?ya6) ?_
                case ya6 =>
                  go_simp <;> with_reducible rfl
                simp only [Act.put, List.setIfInBounds_toArray, List.set_cons_zero, List.set_cons_succ]
                refine grow_take 7 (some 47) (v := ?va7) rfl rfl (by kernel_rfl) (by kernel_rfl) (by kernel_rfl) (fun _ _ _ h => h) (by rfl) (fun W hW => ?ya7) ?_
                case ya7 =>
                  have h1 := cw0 W (hq3.trans hW)
                  go_simp <;> with_reducible rfl
                simp only [Act.put, List.setIfInBounds_toArray, List.set_cons_zero, List.set_cons_succ]
                refine grow_take 8 (some 48) (v := ?va8) rfl rfl (by kernel_rfl) (by kernel_rfl) (by kernel_rfl) (fun _ _ _ h => h) (by rfl) (fun W hW => ?ya8) ?_
                case ya8 =>
                  go_simp <;> with_reducible rfl
                simp only [Act.put, List.setIfInBounds_toArray, List.set_cons_zero, List.set_cons_succ]
                refine grow_take 9 (some 49) (v := ?va9) rfl rfl (by kernel_rfl) (by kernel_rfl) (by kernel_rfl) (fun _ _ _ h => h) (by rfl) (fun W hW => ?ya9) ?_
                case ya9 =>
                  go_simp <;> with_reducible rfl
                simp only [Act.put, List.setIfInBounds_toArray, List.set_cons_zero, List.set_cons_succ]
                refine grow_take 10 (some 50) (v := ?va10) rfl rfl (by kernel_rfl) (by kernel_rfl) (by kernel_rfl) (fun _ _ _ h => h) (by rfl) (fun W hW => ?ya10) ?_
                case ya10 =>
                  go_simp <;> with_reducible rfl
                simp only [Act.put, List.setIfInBounds_toArray, List.set_cons_zero, List.set_cons_succ]
                refine grow_take 11 (some 51) (v := ?va11) rfl rfl (by kernel_rfl) (by kernel_rfl) (by kernel_rfl) (fun _ _ _ h => h) (by rfl) (fun W hW => ?ya11) ?_
                case ya11 =>
                  have h1 := csl W (hq3.trans hW)
                  go_simp <;> with_reducible rfl
                simp only [Act.put, List.setIfInBounds_toArray, List.set_cons_zero, List.set_cons_succ]
                refine grow_take 12 (some 52) (v := ?va12) rfl rfl (by kernel_rfl) (by kernel_rfl) (by kernel_rfl) (fun _ _ _ h => h) (by rfl) (fun W hW => ?ya12) ?_
                case ya12 =>
                  go_simp <;> with_reducible rfl
                simp only [Act.put, List.setIfInBounds_toArray, List.set_cons_zero, List.set_cons_succ]
                refine grow_take 13 (some 53) (v := ?va13) rfl rfl (by kernel_rfl) (by kernel_rfl) (by kernel_rfl) (fun _ _ _ h => h) (by rfl) (fun W hW => ?ya13) ?_
                case ya13 =>
                  go_simp <;> with_reducible rfl
                simp only [Act.put, List.setIfInBounds_toArray, List.set_cons_zero, List.set_cons_succ]
                refine grow_take 14 (some 54) (v := ?va14) rfl rfl (by kernel_rfl) (by kernel_rfl) (by kernel_rfl) (fun _ _ _ h => h) (by rfl) (fun W hW => ?ya14) ?_
                case ya14 =>
                  go_simp <;> with_reducible rfl
                simp only [Act.put, List.setIfInBounds_toArray, List.set_cons_zero, List.set_cons_succ]
                refine grow_take 15 (some 55) (v := ?va15) rfl rfl (by kernel_rfl) (by kernel_rfl) (by kernel_rfl) (fun _ _ _ h => h) (by rfl) (fun W hW => ?ya15) ?_
                case ya15 =>
                  have h1 := cw1 W (hq3.trans hW)
                  go_simp <;> with_reducible rfl
                simp only [Act.put, List.setIfInBounds_toArray, List.set_cons_zero, List.set_cons_succ]
                refine grow_only 16 rfl (by kernel_rfl) (fun K hK => ?_)
                go_simp
                have hba : Below w3.heap.size w3 (w3.alloc (.cells #[.string U, .string V] 9)) := below1 w3 _
                have hbam := hba.mono hq3.size
                have hq4 := hq3.trans hbam
                have hor4 := own_below hor3 hba
                have HI4 := hide (HI3.out.trans (hba.mono HI3.out.size))
                have hS4 := strs6_2 w3 U V 9
                refine hK.out _ _ hbam ?_
                clear hK K hba hbam hor3 hq3 HI3
                have hF4 := hFew (w3.alloc (.cells #[.string U, .string V] 9)) w3.heap.size hS4
                generalize hs3 : w3.heap.size = h3 at *
                generalize w3.alloc (.cells #[.string U, .string V] 9) = w4 at *
                try simp only [Act.put, List.setIfInBounds_toArray, List.set_cons_zero, List.set_cons_succ]
                refine grow_only 17 rfl (by kernel_rfl) (fun K hK => ?_)
                go_simp
                refine hF4.mono ?_
                rintro e w5 ⟨rfl, hw5⟩
                obtain rfl := hw5.symm
                refine hK.out _ _ (Below.refl _ _) ?_
                clear hK K hw5 hF4 hS4
                try simp only [Act.put, List.setIfInBounds_toArray, List.set_cons_zero, List.set_cons_succ]
                refine grow_take 18 (some 58) (v := ?va18) rfl rfl (by kernel_rfl) (by kernel_rfl) (by kernel_rfl) (fun _ _ _ h => h) (by rfl) (fun W hW => ?ya18) ?_
                case ya18 =>
                  go_simp <;> with_reducible rfl
                simp only [Act.put, List.setIfInBounds_toArray, List.set_cons_zero, List.set_cons_succ]
                refine grow_done (by kernel_rfl) ?_ _
                clear hFew hs3
                have cs4 := csl _ hq4
                have d0 := cw0 _ hq4
                have d1 := cw1 _ hq4
                have hone := litP w4 U V 41
                have hH := Has.own hone
                have hor5 := hor4.alloc (.cells #[.string U, .string V] 41)
                have hbb := below1 w4 (.cells #[.string U, .string V] 41)
                have HI5 := hide (HI4.out.trans (hbb.mono HI4.out.size))
                have hs5 := HI5.out.size
                have h1c : ∀ u ∈ [Value.string U, Value.string V], u.oneCell' = true := by simp [Value.oneCell']
                clear hone hor4 hbb HI4 hq4 csl cw0 cw1
                go_wp2_with (at_builtin; go_must (refine appE _ 37 41 _ 2 32 Tryz.underlying37 infoA rfl (by omega) (by omega) rfl (.tmp 59) (.tmp 67) rfl wo.heap.size _ j _ rfl hor5 _ _ 1 1 [.string U, .string V] rfl hH h1c (by omega) hs5 ?_))
                intro v' w6 hor6 hb6 _
                have HI6 := hide (HI5.out.trans hb6)
                rw [← htk.out] at hor6
                clear hor5 HI5 hs5 hH hb6 h1c cs4 d0 d1
                go_wp2
                go_roundg k
                case measure => omega
                case rel => exact ⟨j + 1, by omega, by go_num, hor6, HI6, hsa2⟩
              · have hFew := fun w h hS => few_pair a false ⟨fun e => (by cases e), fun h => absurd h hsa1⟩ w h hS
                generalize txt a.1 = U at *
                generalize txt a.2 = V at *
                clear ha hrd hsa hsa1 htk
                go_wp2_with fail
                refine grow_begin_at w.heap.size (by kernel_rfl) ?_
                have hdr : Below wr.heap.size wr wr.drew := (Below.refl _ _).drew
                have hq3 := hq.trans (hdr.mono hq.size)
                have hor3 := own_below hor hdr
                have HI3 := hide (HI.out.trans (hdr.mono HI.out.size))
                clear hor hq HI hdr
                generalize wr.drew = w3 at *
                refine grow_take 0 (some 40) (v := ?vb0) rfl rfl (by kernel_rfl) (by kernel_rfl) (by kernel_rfl) (fun _ _ _ h => h) (by rfl) (fun W hW => ?yb0) ?_
                case yb0 =>
                  go_simp <;> with_reducible rfl
                simp only [Act.put, List.setIfInBounds_toArray, List.set_cons_zero, List.set_cons_succ]
                refine grow_take 1 (some 41) (v := ?vb1) rfl rfl (by kernel_rfl) (by kernel_rfl) (by kernel_rfl) (fun _ _ _ h => h) (by rfl) (fun W hW => ?yb1) ?_
                case yb1 =>
                  go_simp <;> with_reducible rfl
                simp only [Act.put, List.setIfInBounds_toArray, List.set_cons_zero, List.set_cons_succ]
                refine grow_take 2 (some 42) (v := ?vb2) rfl rfl (by kernel_rfl) (by kernel_rfl) (by kernel_rfl) (fun _ _ _ h => h) (by rfl) (fun W hW => ?yb2) ?_
                case yb2 =>
                  go_simp <;> with_reducible rfl
                simp only [Act.put, List.setIfInBounds_toArray, List.set_cons_zero, List.set_cons_succ]
                refine grow_take 3 (some 43) (v := ?vb3) rfl rfl (by kernel_rfl) (by kernel_rfl) (by kernel_rfl) (fun _ _ _ h => h) (by rfl) (fun W hW => ?yb3) ?_
                case yb3 =>
                  have h1 := csl W (hq3.trans hW)
                  go_simp <;> with_reducible rfl
                simp only [Act.put, List.setIfInBounds_toArray, List.set_cons_zero, List.set_cons_succ]
                refine grow_take 4 (some 44) (v := ?vb4) rfl rfl (by kernel_rfl) (by kernel_rfl) (by kernel_rfl) (fun _ _ _ h => h) (by rfl) (fun W hW => ?yb4) ?_
                case yb4 =>
                  go_simp <;> with_reducible rfl
                simp only [Act.put, List.setIfInBounds_toArray, List.set_cons_zero, List.set_cons_succ]
                refine grow_take 5 (some 45) (v := ?vb5) rfl rfl (by kernel_rfl) (by kernel_rfl) (by kernel_rfl) (fun _ _ _ h => h) (by rfl) (fun W hW => ?yb5) ?_
                case yb5 =>
                  go_simp <;> with_reducible rfl
                simp only [Act.put, List.setIfInBounds_toArray, List.set_cons_zero, List.set_cons_succ]
                refine grow_take 6 (some 46) (v := ?vb6) rfl rfl (by kernel_rfl) (by kernel_rfl) (by kernel_rfl) (fun _ _ _ h => h) (by rfl) (fun W hW => ?yb6) ?_
                case yb6 =>
                  go_simp <;> with_reducible rfl
                simp only [Act.put, List.setIfInBounds_toArray, List.set_cons_zero, List.set_cons_succ]
                refine grow_take 7 (some 47) (v := ?vb7) rfl rfl (by kernel_rfl) (by kernel_rfl) (by kernel_rfl) (fun _ _ _ h => h) (by rfl) (fun W hW => ?yb7) ?_
                case yb7 =>
                  have h1 := cw0 W (hq3.trans hW)
                  go_simp <;> with_reducible rfl
                simp only [Act.put, List.setIfInBounds_toArray, List.set_cons_zero, List.set_cons_succ]
                refine grow_take 8 (some 48) (v := ?vb8) rfl rfl (by kernel_rfl) (by kernel_rfl) (by kernel_rfl) (fun _ _ _ h => h) (by rfl) (fun W hW => ?yb8) ?_
                case yb8 =>
                  go_simp <;> with_reducible rfl
                simp only [Act.put, List.setIfInBounds_toArray, List.set_cons_zero, List.set_cons_succ]
                refine grow_take 9 (some 49) (v := ?vb9) rfl rfl (by kernel_rfl) (by kernel_rfl) (by kernel_rfl) (fun _ _ _ h => h) (by rfl) (fun W hW => ?yb9) ?_
                case yb9 =>
                  go_simp <;> with_reducible rfl
                simp only [Act.put, List.setIfInBounds_toArray, List.set_cons_zero, List.set_cons_succ]
                refine grow_take 10 (some 50) (v := ?vb10) rfl rfl (by kernel_rfl) (by kernel_rfl) (by kernel_rfl) (fun _ _ _ h => h) (by rfl) (fun W hW => ?yb10) ?_
                case yb10 =>
                  go_simp <;> with_reducible rfl
                simp only [Act.put, List.setIfInBounds_toArray, List.set_cons_zero, List.set_cons_succ]
                refine grow_take 11 (some 51) (v := ?vb11) rfl rfl (by kernel_rfl) (by kernel_rfl) (by kernel_rfl) (fun _ _ _ h => h) (by rfl) (fun W hW => ?yb11) ?_
                case yb11 =>
                  have h1 := csl W (hq3.trans hW)
                  go_simp <;> with_reducible rfl
                simp only [Act.put, List.setIfInBounds_toArray, List.set_cons_zero, List.set_cons_succ]
                refine grow_take 12 (some 52) (v := ?vb12) rfl rfl (by kernel_rfl) (by kernel_rfl) (by kernel_rfl) (fun _ _ _ h => h) (by rfl) (fun W hW => ?yb12) ?_
                case yb12 =>
                  go_simp <;> with_reducible rfl
                simp only [Act.put, List.setIfInBounds_toArray, List.set_cons_zero, List.set_cons_succ]
                refine grow_take 13 (some 53) (v := ?vb13) rfl rfl (by kernel_rfl) (by kernel_rfl) (by kernel_rfl) (fun _ _ _ h => h) (by rfl) (fun W hW => ?yb13) ?_
                case yb13 =>
                  go_simp <;> with_reducible rfl
                simp only [Act.put, List.setIfInBounds_toArray, List.set_cons_zero, List.set_cons_succ]
                refine grow_take 14 (some 54) (v := ?vb14) rfl rfl (by kernel_rfl) (by kernel_rfl) (by kernel_rfl) (fun _ _ _ h => h) (by rfl) (fun W hW => ?yb14) ?_
                case yb14 =>
                  go_simp <;> with_reducible rfl
                simp only [Act.put, List.setIfInBounds_toArray, List.set_cons_zero, List.set_cons_succ]
                refine grow_take 15 (some 55) (v := ?vb15) rfl rfl (by kernel_rfl) (by kernel_rfl) (by kernel_rfl) (fun _ _ _ h => h) (by rfl) (fun W hW => ?yb15) ?_
                case yb15 =>
                  have h1 := cw1 W (hq3.trans hW)
                  go_simp <;> with_reducible rfl
                simp only [Act.put, List.setIfInBounds_toArray, List.set_cons_zero, List.set_cons_succ]
                refine grow_only 16 rfl (by kernel_rfl) (fun K hK => ?_)
                go_simp
                have hba : Below w3.heap.size w3 (w3.alloc (.cells #[.string U, .string V] 9)) := below1 w3 _
                have hbam := hba.mono hq3.size
                have hq4 := hq3.trans hbam
                have hor4 := own_below hor3 hba
                have HI4 := hide (HI3.out.trans (hba.mono HI3.out.size))
                have hS4 := strs6_2 w3 U V 9
                refine hK.out _ _ hbam ?_
                clear hK K hba hbam hor3 hq3 HI3
                have hF4 := hFew (w3.alloc (.cells #[.string U, .string V] 9)) w3.heap.size hS4
                generalize hs3 : w3.heap.size = h3 at *
                generalize w3.alloc (.cells #[.string U, .string V] 9) = w4 at *
                try simp only [Act.put, List.setIfInBounds_toArray, List.set_cons_zero, List.set_cons_succ]
                refine grow_only 17 rfl (by kernel_rfl) (fun K hK => ?_)
                go_simp
                refine hF4.mono ?_
                rintro e w5 ⟨rfl, hw5⟩
                obtain rfl := hw5.symm
                refine hK.out _ _ (Below.refl _ _) ?_
                clear hK K hw5 hF4 hS4
                try simp only [Act.put, List.setIfInBounds_toArray, List.set_cons_zero, List.set_cons_succ]
                refine grow_take 18 (some 58) (v := ?vb18) rfl rfl (by kernel_rfl) (by kernel_rfl) (by kernel_rfl) (fun _ _ _ h => h) (by rfl) (fun W hW => ?yb18) ?_
                case yb18 =>
                  go_simp <;> with_reducible rfl
                simp only [Act.put, List.setIfInBounds_toArray, List.set_cons_zero, List.set_cons_succ]
                refine grow_done (by kernel_rfl) ?_ _
                clear hFew hs3 csl cw0 cw1 hor4 HI4
                go_wp2
                go_ret
                exact ⟨rfl, hq4⟩

end Go.Proofs.YtkncdohghafeiaaGreatDoor
