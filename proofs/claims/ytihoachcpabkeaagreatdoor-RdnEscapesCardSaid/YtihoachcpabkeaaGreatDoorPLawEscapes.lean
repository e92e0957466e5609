/-
  The walk of RdnEscapes. By an AI agent.
-/
import Derived.Test.YtihoachcpabkeaaGreatDoorPFew
namespace Go.Proofs.YtihoachcpabkeaaGreatDoor
open Go.RowKit
set_option linter.unusedVariables false

/-- The one pair that the statement makes. -/
def cnP (v : List UInt8) : List P2 := [([99, 110], v)]
theorem cn_plain : Plain [99, 110] := ⟨by decide⟩
theorem cn_print (v : List UInt8) : ∀ c ∈ prP (cnP v), 32 ≤ c.toNat ∧ c.toNat ≤ 126 := by
  intro c hc
  have e : prP (cnP v) = [99, 110, 61] ++ wrV v := rfl
  rw [e] at hc
  rcases List.mem_append.1 hc with h | h
  · have : ∀ c ∈ ([99, 110, 61] : List UInt8), 32 ≤ c.toNat ∧ c.toNat ≤ 126 := by decide
    exact this c h
  · exact wr_print v true c h
theorem cn_cut44 (v : List UInt8) : cuts 44 (prP (cnP v)) = [prP (cnP v)] :=
  cut_end (prP_whole _ fun a ha => by
    obtain rfl := List.mem_singleton.1 ha
    exact cn_plain)
theorem cn_cut43 (v : List UInt8) : cuts 43 (prP (cnP v)) = [prP (cnP v)] := by
  have h := cuts_prP (cnP v) (by simp [cnP]) (fun a ha => by
    obtain rfl := List.mem_singleton.1 ha
    exact cn_plain)
  exact h

set_option maxRecDepth 100000 in
set_option maxHeartbeats 64000000 in
theorem escapes_law (w : World) (s : ByteArray) (hT : TM w) :
    Calls Tryz.prog 7 #[.string s] w fun e w' => e = .returned (.bool true) ∧ Below w.heap.size w w' := by
  have hc0 := Below.refl w.heap.size w
  by_cases hs : s.size ≤ 300
  · have z1 : ¬ ((300 : Int) < (s.size : Int)) := by omega
    obtain ⟨v, hv⟩ : ∃ v, s.data.toList = v := ⟨_, rfl⟩
    have hsv : s = txt v := by rw [← hv]; exact (data_cell s _ rfl)
    have hvl : v.length ≤ 300 := by rw [← hv, ← Lib.size_eq]; exact hs
    have hsz : ∀ a ∈ cnP v, a.2.length ≤ 1000000 := fun a ha => by
      obtain rfl := List.mem_singleton.1 ha
      simp only; omega
    have HV := hide hsv
    have HZ := hide hsz
    clear hv hsv hsz
    go_enter Tryz.func7, Tryz.ntmps7
    go_wp2_with (go_at_call 8; fail)
    refine (awake5_any _ (hT.below hc0)).mono ?_
    rintro e w1 ⟨rfl, hb⟩
    have hc1 := hc0.trans (hb.mono hc0.size)
    clear hb hc0
    have hc2 := hc1.alloc hc1.size (.cells #[.string ⟨#[99, 110]⟩, .string s] 43)
    have hL := Has.own (litP w1 ⟨#[99, 110]⟩ s 43)
    have hp2 : ([.string ⟨#[99, 110]⟩, .string s] : List Value) = prs (cnP v) := by rw [HV.out]; rfl
    have hbx := Bx.new w1 ⟨#[99, 110]⟩ s 43
    obtain ⟨w2, hw2⟩ : ∃ w2, w1.alloc (.cells #[.string ⟨#[99, 110]⟩, .string s] 43) = w2 := ⟨_, rfl⟩
    obtain ⟨gl, hgl⟩ : ∃ gl, w1.heap.size = gl := ⟨_, rfl⟩
    rw [hw2] at hc2 hL hbx
    rw [hgl] at hL hbx
    rw [hp2] at hL
    have HL := hide hL
    have HB := hide hbx
    clear hp2 hL hbx
    have hP := pprint_any w2 (some ⟨gl, 0, none⟩) 1 1 (cnP v) HL.out (by omega) HZ.out (hT.below hc2).tt
    by_cases hp : PartOk (cnP v)
    · rw [prV_yes hp] at hP
      simp only at hP
      have hTs : (txt (prP (cnP v))).size ≤ 1000000 := by
        rw [txt_size]
        have h1 := prP_len (cnP v) hp.each
        have h2 := hp.le
        omega
      have hPa := fun w hT => pparse_any (txt (prP (cnP v))) hTs w hT
      simp only [txt_toList, parse_pr hp] at hPa
      have hS1 : ∀ w, Calls Tryz.prog 21 #[.string (txt (prP (cnP v))), .int .u8 44] w fun e w' => ∃ u, e = .returned u ∧ w'.ownsRow w.heap.size 9 1 u 1 (strs [prP (cnP v)]) ∧ Below w.heap.size w w' := fun w => by
        have h := psplit_any (txt (prP (cnP v))) hTs 44 (by decide) w
        rw [txt_toList, cn_cut44] at h
        exact h
      have hS2 : ∀ w, Calls Tryz.prog 21 #[.string (txt (prP (cnP v))), .int .u8 43] w fun e w' => ∃ u, e = .returned u ∧ w'.ownsRow w.heap.size 9 1 u 1 (strs [prP (cnP v)]) ∧ Below w.heap.size w w' := fun w => by
        have h := psplit_any (txt (prP (cnP v))) hTs 43 (by decide) w
        rw [txt_toList, cn_cut43] at h
        exact h
      have hby : Hid (∀ (i : Nat) (hi : i < (txt (prP (cnP v))).size), 32 ≤ ((txt (prP (cnP v)))[i]).toNat ∧ ((txt (prP (cnP v)))[i]).toNat ≤ 126) := hide fun i hi => by
        have h := Lib.data_getElem? (txt (prP (cnP v))) i hi
        rw [txt_toList] at h
        exact cn_print v _ (List.mem_of_getElem? h)
      generalize prP (cnP v) = q at *
      generalize txt q = X at *
      clear hp
      go_wp2_with (go_at_call 10; fail)
      refine hP.mono ?_
      rintro e w3 ⟨rfl, hb3⟩
      have hc3 := hc2.trans (hb3.mono hc2.size)
      have HB3 := hide (HB.out.below hb3)
      clear hb3 hc2 hP HB HL
      go_wp2
      go_loopg [32] X.size (fun k s32 wx => ∃ i : Nat, i + k = X.size ∧ s32 = .int .i64 (i : Int) ∧ wx = w3)
      case atStart => exact ⟨0, by omega, rfl, rfl⟩
      case round =>
        obtain ⟨i, hig, rfl, rfl⟩ := hrel
        cases gk with
        | zero =>
          obtain rfl : i = X.size := by omega
          have hiz : ¬ ((X.size : Int) < (X.size : Int)) := by omega
          clear hby
          go_wp2_with (go_at_call 15; fail)
          refine (hPa _ (hT.below hc3)).mono ?_
          rintro e w5 hpost
          obtain ⟨Am, nm, cm, rfl, hnm, hHm, hb5⟩ := hpost.out
          obtain rfl : nm = 1 := hnm
          obtain ⟨gm, om, rfl, hgm, hrd⟩ := hHm.reads (by simp [cnP])
          have HC5 := hide (hc3.trans (hb5.mono hc3.size))
          have hB5 := HB3.out.below hb5
          have cm0 : ∀ W, Below w5.heap.size w5 W → W.cell? ⟨gm, om, none⟩ = some (.string ⟨#[99, 110]⟩) := fun W hW => by
            have := (hW.cell (p := ⟨gm, om + 0 * 2, none⟩) hgm).trans (hrd.fst 0 _ rfl)
            rw [Nat.zero_mul, Nat.add_zero] at this
            exact this
          have cm1 : ∀ W, Below w5.heap.size w5 W → W.cell? ⟨gm, om + 1, none⟩ = some (.string s) := fun W hW => by
            have := (hW.cell (p := ⟨gm, om + 0 * 2 + 1, none⟩) hgm).trans (hrd.snd 0 _ rfl)
            rw [HV.out]
            simpa using this
          have cl0 : ∀ W, Below w5.heap.size w5 W → W.cell? ⟨gl, 0, none⟩ = some (.string ⟨#[99, 110]⟩) := fun W hW => (hB5.below hW).c0
          have cl1 : ∀ W, Below w5.heap.size w5 W → W.cell? ⟨gl, 1, none⟩ = some (.string s) := fun W hW => (hB5.below hW).c1
          clear hPa hpost hHm hrd hb5 hc3 hB5 HB3 HV HZ hw2 hgl hc1 hvl hs
          go_wp2_with fail
          refine grow_begin (by kernel_rfl) ?_
          have hz6 : Below w5.heap.size w5 w5.drew := (Below.refl _ _).drew
          generalize w5.drew = w6 at *
          refine grow_take 0 (some 51) (v := ?va0) rfl rfl (by kernel_rfl) (by kernel_rfl) (by kernel_rfl) (fun _ _ _ h => h) (by rfl) (fun W hW => ?ya0) ?_
          case ya0 =>
            go_simp <;> with_reducible rfl
          simp only [Act.put, List.setIfInBounds_toArray, List.set_cons_zero, List.set_cons_succ]
          refine grow_take 1 (some 52) (v := ?va1) rfl rfl (by kernel_rfl) (by kernel_rfl) (by kernel_rfl) (fun _ _ _ h => h) (by rfl) (fun W hW => ?ya1) ?_
          case ya1 =>
            go_simp <;> with_reducible rfl
          simp only [Act.put, List.setIfInBounds_toArray, List.set_cons_zero, List.set_cons_succ]
          refine grow_take 2 (some 53) (v := ?va2) rfl rfl (by kernel_rfl) (by kernel_rfl) (by kernel_rfl) (fun _ _ _ h => h) (by rfl) (fun W hW => ?ya2) ?_
          case ya2 =>
            go_simp <;> with_reducible rfl
          simp only [Act.put, List.setIfInBounds_toArray, List.set_cons_zero, List.set_cons_succ]
          refine grow_take 3 (some 54) (v := ?va3) rfl rfl (by kernel_rfl) (by kernel_rfl) (by kernel_rfl) (fun _ _ _ h => h) (by rfl) (fun W hW => ?ya3) ?_
          case ya3 =>
            go_simp <;> with_reducible rfl
          simp only [Act.put, List.setIfInBounds_toArray, List.set_cons_zero, List.set_cons_succ]
          refine grow_take 4 (some 55) (v := ?va4) rfl rfl (by kernel_rfl) (by kernel_rfl) (by kernel_rfl) (fun _ _ _ h => h) (by rfl) (fun W hW => ?ya4) ?_
          case ya4 =>
            go_simp <;> with_reducible rfl
          simp only [Act.put, List.setIfInBounds_toArray, List.set_cons_zero, List.set_cons_succ]
          refine grow_take 5 (some 56) (v := ?va5) rfl rfl (by kernel_rfl) (by kernel_rfl) (by kernel_rfl) (fun _ _ _ h => h) (by rfl) (fun W hW => ?ya5) ?_
          case ya5 =>
            go_simp <;> with_reducible rfl
          simp only [Act.put, List.setIfInBounds_toArray, List.set_cons_zero, List.set_cons_succ]
          refine grow_take 6 (some 57) (v := ?va6) rfl rfl (by kernel_rfl) (by kernel_rfl) (by kernel_rfl) (fun _ _ _ h => h) (by rfl) (fun W hW => ?ya6) ?_
          case ya6 =>
            go_simp <;> with_reducible rfl
          simp only [Act.put, List.setIfInBounds_toArray, List.set_cons_zero, List.set_cons_succ]
          refine grow_take 7 (some 58) (v := ?va7) rfl rfl (by kernel_rfl) (by kernel_rfl) (by kernel_rfl) (fun _ _ _ h => h) (by rfl) (fun W hW => ?ya7) ?_
          case ya7 =>
            go_simp <;> with_reducible rfl
          simp only [Act.put, List.setIfInBounds_toArray, List.set_cons_zero, List.set_cons_succ]
          refine grow_take 8 (some 59) (v := ?va8) rfl rfl (by kernel_rfl) (by kernel_rfl) (by kernel_rfl) (fun _ _ _ h => h) (by rfl) (fun W hW => ?ya8) ?_
          case ya8 =>
            go_simp <;> with_reducible rfl
          simp only [Act.put, List.setIfInBounds_toArray, List.set_cons_zero, List.set_cons_succ]
          refine grow_take 9 (some 60) (v := ?va9) rfl rfl (by kernel_rfl) (by kernel_rfl) (by kernel_rfl) (fun _ _ _ h => h) (by rfl) (fun W hW => ?ya9) ?_
          case ya9 =>
            go_simp <;> with_reducible rfl
          simp only [Act.put, List.setIfInBounds_toArray, List.set_cons_zero, List.set_cons_succ]
          refine grow_take 10 (some 61) (v := ?va10) rfl rfl (by kernel_rfl) (by kernel_rfl) (by kernel_rfl) (fun _ _ _ h => h) (by rfl) (fun W hW => ?ya10) ?_
          case ya10 =>
            have h1 := cm0 W (hz6.trans (Below.mono hW hz6.size))
            have h2 := cm1 W (hz6.trans (Below.mono hW hz6.size))
            go_simp <;> with_reducible rfl
          simp only [Act.put, List.setIfInBounds_toArray, List.set_cons_zero, List.set_cons_succ]
          refine grow_take 11 (some 62) (v := ?va11) rfl rfl (by kernel_rfl) (by kernel_rfl) (by kernel_rfl) (fun _ _ _ h => h) (by rfl) (fun W hW => ?ya11) ?_
          case ya11 =>
            go_simp <;> with_reducible rfl
          simp only [Act.put, List.setIfInBounds_toArray, List.set_cons_zero, List.set_cons_succ]
          refine grow_take 12 (some 63) (v := ?va12) rfl rfl (by kernel_rfl) (by kernel_rfl) (by kernel_rfl) (fun _ _ _ h => h) (by rfl) (fun W hW => ?ya12) ?_
          case ya12 =>
            go_simp <;> with_reducible rfl
          simp only [Act.put, List.setIfInBounds_toArray, List.set_cons_zero, List.set_cons_succ]
          refine grow_take 13 (some 64) (v := ?va13) rfl rfl (by kernel_rfl) (by kernel_rfl) (by kernel_rfl) (fun _ _ _ h => h) (by rfl) (fun W hW => ?ya13) ?_
          case ya13 =>
            have h1 := cl0 W (hz6.trans (Below.mono hW hz6.size))
            have h2 := cl1 W (hz6.trans (Below.mono hW hz6.size))
            go_simp <;> with_reducible rfl
          simp only [Act.put, List.setIfInBounds_toArray, List.set_cons_zero, List.set_cons_succ]
          refine grow_take 14 (some 65) (v := ?va14) rfl rfl (by kernel_rfl) (by kernel_rfl) (by kernel_rfl) (fun _ _ _ h => h) (by rfl) (fun W hW => ?ya14) ?_
          case ya14 =>
            go_simp <;> with_reducible rfl
          simp only [Act.put, List.setIfInBounds_toArray, List.set_cons_zero, List.set_cons_succ]
          refine grow_take 15 (some 66) (v := ?va15) rfl rfl (by kernel_rfl) (by kernel_rfl) (by kernel_rfl) (fun _ _ _ h => h) (by rfl) (fun W hW => ?ya15) ?_
          case ya15 =>
            go_simp <;> with_reducible rfl
          simp only [Act.put, List.setIfInBounds_toArray, List.set_cons_zero, List.set_cons_succ]
          refine grow_take 16 (some 67) (v := ?va16) rfl rfl (by kernel_rfl) (by kernel_rfl) (by kernel_rfl) (fun _ _ _ h => h) (by rfl) (fun W hW => ?ya16) ?_
          case ya16 =>
            go_simp <;> with_reducible rfl
          simp only [Act.put, List.setIfInBounds_toArray, List.set_cons_zero, List.set_cons_succ]
          refine grow_take 17 (some 68) (v := ?va17) rfl rfl (by kernel_rfl) (by kernel_rfl) (by kernel_rfl) (fun _ _ _ h => h) (by rfl) (fun W hW => ?ya17) ?_
          case ya17 =>
            go_simp <;> with_reducible rfl
          simp only [Act.put, List.setIfInBounds_toArray, List.set_cons_zero, List.set_cons_succ]
          refine grow_only 18 rfl (by kernel_rfl) (fun K hK => ?_)
          go_simp
          refine (hS1 _).mono ?_
          rintro e w7 ⟨v7, rfl, hown7, hb7⟩
          obtain ⟨A7, c7, rfl, _, _⟩ := own_form hown7
          have hz7 := hz6.trans (hb7.mono hz6.size)
          refine hK.out _ _ hb7 ?_
          clear hK K hown7 hb7 hz6
          try simp only [Act.put, List.setIfInBounds_toArray, List.set_cons_zero, List.set_cons_succ]
          refine grow_take 19 (some 70) (v := ?va19) rfl rfl (by kernel_rfl) (by kernel_rfl) (by kernel_rfl) (fun _ _ _ h => h) (by rfl) (fun W hW => ?ya19) ?_
          case ya19 =>
            go_simp <;> with_reducible rfl
          simp only [Act.put, List.setIfInBounds_toArray, List.set_cons_zero, List.set_cons_succ]
          refine grow_take 20 (some 71) (v := ?va20) rfl rfl (by kernel_rfl) (by kernel_rfl) (by kernel_rfl) (fun _ _ _ h => h) (by rfl) (fun W hW => ?ya20) ?_
          case ya20 =>
            go_simp <;> with_reducible rfl
          simp only [Act.put, List.setIfInBounds_toArray, List.set_cons_zero, List.set_cons_succ]
          refine grow_take 21 (some 72) (v := ?va21) rfl rfl (by kernel_rfl) (by kernel_rfl) (by kernel_rfl) (fun _ _ _ h => h) (by rfl) (fun W hW => ?ya21) ?_
          case ya21 =>
            go_simp <;> with_reducible rfl
          simp only [Act.put, List.setIfInBounds_toArray, List.set_cons_zero, List.set_cons_succ]
          refine grow_take 22 (some 73) (v := ?va22) rfl rfl (by kernel_rfl) (by kernel_rfl) (by kernel_rfl) (fun _ _ _ h => h) (by rfl) (fun W hW => ?ya22) ?_
          case ya22 =>
            go_simp <;> with_reducible rfl
          simp only [Act.put, List.setIfInBounds_toArray, List.set_cons_zero, List.set_cons_succ]
          refine grow_take 23 (some 74) (v := ?va23) rfl rfl (by kernel_rfl) (by kernel_rfl) (by kernel_rfl) (fun _ _ _ h => h) (by rfl) (fun W hW => ?ya23) ?_
          case ya23 =>
            go_simp <;> with_reducible rfl
          simp only [Act.put, List.setIfInBounds_toArray, List.set_cons_zero, List.set_cons_succ]
          refine grow_only 24 rfl (by kernel_rfl) (fun K hK => ?_)
          go_simp
          refine (hS2 _).mono ?_
          rintro e w8 ⟨v8, rfl, hown8, hb8⟩
          obtain ⟨A8, c8, rfl, _, _⟩ := own_form hown8
          have hz8 := hz7.trans (hb8.mono hz7.size)
          refine hK.out _ _ hb8 ?_
          clear hK K hown8 hb8 hz7
          try simp only [Act.put, List.setIfInBounds_toArray, List.set_cons_zero, List.set_cons_succ]
          refine grow_take 25 (some 76) (v := ?va25) rfl rfl (by kernel_rfl) (by kernel_rfl) (by kernel_rfl) (fun _ _ _ h => h) (by rfl) (fun W hW => ?ya25) ?_
          case ya25 =>
            go_simp <;> with_reducible rfl
          simp only [Act.put, List.setIfInBounds_toArray, List.set_cons_zero, List.set_cons_succ]
          refine grow_take 26 (some 77) (v := ?va26) rfl rfl (by kernel_rfl) (by kernel_rfl) (by kernel_rfl) (fun _ _ _ h => h) (by rfl) (fun W hW => ?ya26) ?_
          case ya26 =>
            go_simp <;> with_reducible rfl
          simp only [Act.put, List.setIfInBounds_toArray, List.set_cons_zero, List.set_cons_succ]
          refine grow_take 27 (some 78) (v := ?va27) rfl rfl (by kernel_rfl) (by kernel_rfl) (by kernel_rfl) (fun _ _ _ h => h) (by rfl) (fun W hW => ?ya27) ?_
          case ya27 =>
            go_simp <;> with_reducible rfl
          simp only [Act.put, List.setIfInBounds_toArray, List.set_cons_zero, List.set_cons_succ]
          refine grow_take 28 (some 2) (v := ?va28) rfl rfl (by kernel_rfl) (by kernel_rfl) (by kernel_rfl) (fun _ _ _ h => h) (by rfl) (fun W hW => ?ya28) ?_
          case ya28 =>
            go_simp <;> with_reducible rfl
          simp only [Act.put, List.setIfInBounds_toArray, List.set_cons_zero, List.set_cons_succ]
          refine grow_done (by kernel_rfl) ?_ _
          go_wp2
          go_ret
          exact ⟨rfl, HC5.out.trans (hz8.mono HC5.out.size)⟩
        | succ k =>
          have hi : i < X.size := by omega
          have hiz : (i : Int) < (X.size : Int) := by omega
          obtain ⟨c, hx⟩ : ∃ c : UInt8, X[i]'hi = c := ⟨_, rfl⟩
          obtain ⟨y1, y2⟩ := hby.out i hi
          rw [hx] at y1 y2
          have q1 : ¬ ((c.toNat : Int) < 32) := by omega
          have q2 : ¬ ((126 : Int) < (c.toNat : Int)) := by omega
          clear hby hPa hS1 hS2
          go_wp2
          go_roundg k
          case measure => omega
          case rel => exact ⟨i + 1, by omega, by go_num, rfl⟩
    · rw [prV_no hp] at hP
      simp only at hP
      go_wp2_with (go_at_call 10; fail)
      refine hP.mono ?_
      rintro e w3 ⟨rfl, hb3⟩
      have hc3 := hc2.trans (hb3.mono hc2.size)
      have hF := pformed_any w3 (some ⟨gl, 0, none⟩) 1 1 (cnP v) ((HL.out.below hb3).upto hb3.size) (by omega) HZ.out (hT.below hc3).tt
      rw [partB_false hp] at hF
      clear hb3 hc2 hP HB HL hp
      go_wp2_with (go_at_call 13; fail)
      refine hF.mono ?_
      rintro e w4 ⟨rfl, hb4⟩
      have hc4 := hc3.trans (hb4.mono hc3.size)
      clear hF hb4 hc3
      go_wp2
      go_ret
      exact ⟨rfl, hc4⟩
  · have z1 : ((300 : Int) < (s.size : Int)) := by omega
    clear hs
    go_enter Tryz.func7, Tryz.ntmps7
    go_wp2_with (go_at_call 8; fail)
    refine (awake5_any _ (hT.below hc0)).mono ?_
    rintro e w1 ⟨rfl, hb⟩
    have hc1 := hc0.trans (hb.mono hc0.size)
    go_wp2_with (go_at_call 8; fail)
    refine (awake5_any _ (hT.below hc1)).mono ?_
    rintro e w2 ⟨rfl, hb2⟩
    have hc2 := hc1.trans (hb2.mono hc1.size)
    go_wp2
    go_ret
    exact ⟨rfl, hc2⟩

end Go.Proofs.YtihoachcpabkeaaGreatDoor
