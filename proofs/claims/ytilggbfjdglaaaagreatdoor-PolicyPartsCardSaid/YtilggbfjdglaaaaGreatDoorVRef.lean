/-
  The reference's Formed: of a rule's names it asks no more than that they have a normal text. By an AI agent.
-/
import Derived.Test.YtilggbfjdglaaaaGreatDoorVDecide
namespace Go.Proofs.YtilggbfjdglaaaaGreatDoor
open Go.RowKit
set_option linter.unusedVariables false

theorem whor_name {l : List UInt8} : WhoR (64 :: l) ↔ (normT l).2 = 0 := by
  constructor
  · rintro (h | h | h | ⟨m, h, hm⟩)
    · simp at h
    · simp at h
    · simp at h
    · injection h with _ h
      subst h
      exact hm
  · intro h
    exact Or.inr (Or.inr (Or.inr ⟨l, rfl, h⟩))
theorem whor_bad {s : List UInt8} (h1 : s ≠ [42]) (h2 : s ≠ [45]) (h3 : s ≠ [61]) (h : ∀ l, s ≠ 64 :: l) : ¬ WhoR s := by
  rintro (e | e | e | ⟨l, e, _⟩)
  · exact h1 e
  · exact h2 e
  · exact h3 e
  · exact h l e

set_option maxRecDepth 100000 in
set_option maxHeartbeats 16000000 in
theorem rwho_any (s : List UInt8) (hs : s.length ≤ 1000000) (w : World) (hT : TM w) :
    Calls Tryz.prog 18 #[.string (txt s)] w fun e w' => e = .returned (.bool (Tr (WhoR s))) ∧ Below w.heap.size w w' := by
  have q1 := toeq s [42]
  have q2 := toeq s [45]
  have q3 := toeq s [61]
  cases whoWay s with
  | any h =>
    rw [Tr_yes (show WhoR s from Or.inl h)]
    rw [show (s == [42]) = true by rw [h]; rfl] at q1
    generalize txt s = S at *
    clear h hs hT q3 q2
    go_enter Tryz.func18, Tryz.ntmps18
    go_wp2
    go_ret
    exact ⟨rfl, Below.refl _ _⟩
  | none h =>
    rw [Tr_yes (show WhoR s from Or.inr (Or.inl h))]
    rw [show (s == [42]) = false by rw [h]; rfl] at q1
    rw [show (s == [45]) = true by rw [h]; rfl] at q2
    generalize txt s = S at *
    clear h hs hT q3
    go_enter Tryz.func18, Tryz.ntmps18
    go_wp2
    go_ret
    exact ⟨rfl, Below.refl _ _⟩
  | self h =>
    rw [Tr_yes (show WhoR s from Or.inr (Or.inr (Or.inl h)))]
    rw [show (s == [42]) = false by rw [h]; rfl] at q1
    rw [show (s == [45]) = false by rw [h]; rfl] at q2
    rw [show (s == [61]) = true by rw [h]; rfl] at q3
    generalize txt s = S at *
    clear h hs hT
    go_enter Tryz.func18, Tryz.ntmps18
    go_wp2
    go_ret
    exact ⟨rfl, Below.refl _ _⟩
  | name l h =>
    subst h
    have hN := rnormal_text l (by simp at hs; omega) w hT
    obtain ⟨y, hy⟩ : ∃ y, (normT l).2 = y := ⟨_, rfl⟩
    have hB : Tr (WhoR (64 :: l)) = (y == 0) := by
      by_cases hp : (normT l).2 = 0
      · rw [Tr_yes (whor_name.2 hp), ← hy, hp]; rfl
      · rw [Tr_no fun k => hp (whor_name.1 k), ← hy, beq_false_of_ne hp]
    rw [hB]
    rw [hy] at hN
    rw [show ((64 :: l) == [42]) = false by simp] at q1
    rw [show ((64 :: l) == [45]) = false by simp] at q2
    rw [show ((64 :: l) == [61]) = false by simp] at q3
    have hsz := txt_size (64 :: l)
    rw [List.length_cons] at hsz
    have z1 : ((((txt (64 :: l)).size : Nat) : Int) == 0) = false := by rw [hsz]; exact beq_false_of_ne (by omega)
    have z2 : (0 : Int) < ((txt (64 :: l)).size : Nat) := by rw [hsz]; omega
    have z3 : (1 : Int) ≤ ((txt (64 :: l)).size : Nat) := by rw [hsz]; omega
    have z4 : (((txt (64 :: l)).size : Nat) : Int) ≤ 1000000 := by rw [hsz]; simp at hs; omega
    have z5 : 0 < (txt (64 :: l)).size := by rw [hsz]; omega
    have g0 : ∀ hh : 0 < (txt (64 :: l)).size, ((((txt (64 :: l))[0]'hh).toNat : Int) != 64) = false := fun hh => rfl
    have g1 : (txt (64 :: l)).extract 1 (txt (64 :: l)).size = txt l := by
      refine ByteArray.ext (Array.ext' ?_)
      rw [Lib.extract_data, hsz]
      simp [txt]
    have HN := hide hN
    have Hg1 := hide g1
    clear hN g1 hs hT hB hy
    generalize txt (64 :: l) = S at *
    generalize txt (normT l).1 = V at *
    generalize txt l = U at *
    clear hsz
    go_enter Tryz.func18, Tryz.ntmps18
    go_wp2_with (go_at_call 8; fail)
    rw [Hg1.out]
    refine HN.out.mono ?_
    rintro e w2 ⟨rfl, hb⟩
    clear HN
    go_wp2
    go_ret
    exact ⟨rfl, hb⟩
  | bad h1 h2 h3 h =>
    rw [Tr_no (whor_bad h1 h2 h3 h)]
    rw [show (s == [42]) = false by simpa using h1] at q1
    rw [show (s == [45]) = false by simpa using h2] at q2
    rw [show (s == [61]) = false by simpa using h3] at q3
    have hsz := txt_size s
    cases s with
    | nil =>
      have z1 : ((((txt []).size : Nat) : Int) == 0) = true := by rw [hsz]; rfl
      generalize txt [] = S at *
      clear hs hT h h1 h2 h3 hsz
      go_enter Tryz.func18, Tryz.ntmps18
      go_wp2
      go_ret
      exact ⟨rfl, Below.refl _ _⟩
    | cons x r =>
      rw [List.length_cons] at hsz
      have hx : x ≠ 64 := fun e => h r (by rw [e])
      have z1 : ((((txt (x :: r)).size : Nat) : Int) == 0) = false := by rw [hsz]; exact beq_false_of_ne (by omega)
      have z2 : (0 : Int) < ((txt (x :: r)).size : Nat) := by rw [hsz]; omega
      have z5 : 0 < (txt (x :: r)).size := by rw [hsz]; omega
      have g2 : ∀ hh : 0 < (txt (x :: r)).size, ((((txt (x :: r))[0]'hh).toNat : Int) != 64) = true := by
        intro hh
        show (((x.toNat : Nat) : Int) != 64) = true
        have : ¬ ((x.toNat : Nat) : Int) = 64 := fun e => hx (by
          have e2 : x.toNat = 64 := by omega
          exact UInt8.toNat_inj.1 (by rw [e2]; rfl))
        simpa [bne] using beq_false_of_ne this
      generalize txt (x :: r) = S at *
      clear hs hT h h1 h2 h3 hsz
      go_enter Tryz.func18, Tryz.ntmps18
      go_wp2
      go_ret
      exact ⟨rfl, Below.refl _ _⟩

set_option maxRecDepth 100000 in
set_option maxHeartbeats 64000000 in
theorem rformed12_any (L : List Ru) (w : World) (A : Option Addr) (n c : Nat) (hA : Has w w.heap.size 5 A n (rusC L)) (hs : ∀ r ∈ L, r.small) (hn : n ≤ 1000000) (hT : TM w) :
    Calls Tryz.prog 11 #[.slice A n c] w fun e w' => e = .returned (.bool (Tr (AllR L))) ∧ Below w.heap.size w w' := by
  have hnl := hA.rules_n
  by_cases h40 : n ≤ 40
  · have z1 : ¬ ((40 : Int) < (n : Int)) := by omega
    obtain ⟨R, hR⟩ : ∃ R, Tr (AllR L) = R := ⟨_, rfl⟩
    rw [hR]
    have HR := hide hR
    have HA := hide hA
    have HS := hide hs
    have HL := hide hnl
    clear hA hs hnl hR
    go_enter Tryz.func11, Tryz.ntmps11
    go_wp2
    go_loopg [14] n (fun k s14 wx => ∃ i : Nat, i + k = n ∧ s14 = .int .i64 (i : Int) ∧ Hid (∀ r ∈ L.take i, FormedR r) ∧ Below w.heap.size w wx)
    case atStart => exact ⟨0, by omega, rfl, hide fun r hr => (by simp at hr), Below.refl _ _⟩
    case round =>
      obtain ⟨i, hig, rfl, hpre, hbr⟩ := hrel
      cases gk with
      | zero =>
        obtain rfl : i = n := by omega
        have hiz : ¬ ((i : Int) < (i : Int)) := by omega
        have hp := hpre.out
        rw [List.take_of_length_le (by rw [HL.out]; exact Nat.le_refl _)] at hp
        have hR1 : Hid (R = true) := hide (by rw [← HR.out]; exact Tr_yes ⟨by rw [← HL.out]; exact h40, hp⟩)
        clear HR HA HS HL hp hpre hT
        go_wp2
        go_ret
        exact ⟨by rw [hR1.out]; rfl, hbr⟩
      | succ k =>
        have hi : i < n := by omega
        have hiz : (i : Int) < (n : Int) := by omega
        obtain ⟨r, hr⟩ : ∃ r, L[i]? = some r := ⟨_, List.getElem?_eq_getElem (by rw [← HL.out]; exact hi)⟩
        obtain ⟨g, o, hAe, hg, hat⟩ := HA.out.rule (fun h => by rw [h] at hr; simp at hr)
        subst hAe
        obtain ⟨c0, c1, c2, c3, c4⟩ := (hat i r hr).below hg hbr
        have hrs := HS.out r (List.mem_of_getElem? hr)
        unfold Ru.small at hrs
        have HN := hide (fun w hT => rnormal_text r.tgt (by omega) w hT)
        have hTy := fun w => rtype_any (txt r.att) (by rw [txt_size]; omega) w
        simp only [txt_toList] at hTy
        have HTy := hide hTy
        have HW := hide (fun w hT => rwho_any r.who (by omega) w hT)
        have hbr1 := hbr.alloc hbr.size (.cells #[.string (txt r.who), .string (txt r.tgt), .string (txt r.att), .int .i64 r.rts, .bool r.alw] 36)
        have hX := Box5.new wr (txt r.who) (txt r.tgt) (txt r.att) r.rts r.alw 36
        have HT1 := hide (hT.below hbr1)
        have d1 := hX.c1
        have HX := hide hX
        have HB1 := hide hbr1
        have htk : L.take (i + 1) = L.take i ++ [r] := by rw [List.take_add_one, hr]; rfl
        have hnext : FormedR r → ∀ q ∈ L.take (i + 1), FormedR q := by
          intro hp
          rw [htk]
          intro q hq
          rcases List.mem_append.1 hq with h | h
          · exact hpre.out q h
          · obtain rfl := List.mem_singleton.1 h
            exact hp
        have hbad : ¬ FormedR r → R = false := fun hp => by rw [← HR.out]; exact Tr_no fun h => hp (h.2 r (List.mem_of_getElem? hr))
        have Hnx := hide hnext
        have Hbd := hide hbad
        have hq : ((txt r.att).toList != (txt (typ r.att).1).toList) = !(r.att == (typ r.att).1) := by unfold bne; rw [txt_bytes, txt_bytes]
        have hq0 : ((txt r.att).toList == (txt (typ r.att).1).toList) = (r.att == (typ r.att).1) := by rw [txt_bytes, txt_bytes]
        obtain ⟨bq, hbq⟩ : ∃ bq, (r.att == (typ r.att).1) = bq := ⟨_, rfl⟩
        obtain ⟨bw, hbw⟩ : ∃ bw, Tr (WhoR r.who) = bw := ⟨_, rfl⟩
        obtain ⟨y, hy⟩ : ∃ y, (normT r.tgt).2 = y := ⟨_, rfl⟩
        have hF : Hid (FormedR r ↔ (bw = true ∧ y = 0 ∧ bq = true ∧ 1 ≤ r.rts ∧ r.rts ≤ 63)) := hide (by
          subst hbq hbw hy
          constructor
          · rintro ⟨a, b, c, d, e⟩
            exact ⟨Tr_yes a, b, by rw [← c]; simp, d, e⟩
          · rintro ⟨a, b, c, d, e⟩
            exact ⟨Tr_iff.1 a, b, by simpa using c, d, e⟩)
        rw [hbq] at hq hq0
        rw [hbw] at HW
        rw [hy] at HN
        generalize txt r.who = SW at *
        generalize txt r.tgt = ST at *
        generalize txt r.att = SA at *
        generalize (typ r.att).2 = ty at *
        generalize txt (typ r.att).1 = TN at *
        generalize txt (normT r.tgt).1 = NT0 at *
        generalize r.rts = x at *
        generalize r.alw = al at *
        clear hat hr hrs htk hpre hnext hbad hbq hbw hy hX hbr1 hTy
        go_wp2_with (go_at_call 8; fail)
        refine (HN.out _ HT1.out).mono ?_
        rintro e w3 ⟨rfl, hb3⟩
        have HX3 := hide (HX.out.grow hb3)
        have HB3 := hide (HB1.out.trans (hb3.mono HB1.out.size))
        have HT3 := hide (HT1.out.below hb3)
        have d2 := HX3.out.c2
        clear hb3 HX HB1 HT1 HN d1 c0 c1 c2 c3 c4 hbr
        go_wp2_with (go_at_call 17; fail)
        refine (HTy.out _).mono ?_
        rintro e w4 ⟨rfl, hb4⟩
        have HX4 := hide (HX3.out.grow hb4)
        have HB4 := hide (HB3.out.trans (hb4.mono HB3.out.size))
        have HT4 := hide (HT3.out.below hb4)
        have d0 := HX4.out.c0
        clear hb4 HX3 HB3 HT3 HTy d2
        go_wp2_with (go_at_call 18; fail)
        refine (HW.out _ HT4.out).mono ?_
        rintro e w5 ⟨rfl, hb5⟩
        have HX5 := hide (HX4.out.grow hb5)
        have HB5 := HB4.out.trans (hb5.mono HB4.out.size)
        have d2 := HX5.out.c2
        have d3 := HX5.out.c3
        clear hb5 HX4 HB4 HT4 HW d0 HX5
        by_cases hf : bw = true ∧ y = 0 ∧ bq = true ∧ 1 ≤ x ∧ x ≤ 63
        · have Hn2 := hide (Hnx.out (hF.out.2 hf))
          obtain ⟨rfl, rfl, rfl, z3, z4⟩ := hf
          clear Hnx Hbd hF
          have z3' : ¬ x < 1 := by omega
          have z4' : ¬ 63 < x := by omega
          go_wp2
          go_roundg k
          case measure => omega
          case rel => exact ⟨i + 1, by omega, by go_num, Hn2, HB5⟩
        · have HR0 := hide (Hbd.out fun h => hf (hF.out.1 h))
          clear Hnx Hbd hF HR HA HS HL
          cases bw with
          | false =>
            clear hf
            go_wp2
            go_ret
            exact ⟨by rw [HR0.out]; rfl, HB5⟩
          | true =>
            by_cases hy0 : y = 0
            · subst hy0
              cases bq with
              | false =>
                clear hf
                go_wp2
                go_ret
                exact ⟨by rw [HR0.out]; rfl, HB5⟩
              | true =>
                by_cases z3 : x < 1
                · clear hf
                  go_wp2
                  go_ret
                  exact ⟨by rw [HR0.out]; rfl, HB5⟩
                · have z4 : 63 < x := by
                    refine Decidable.byContradiction fun z => hf ⟨rfl, rfl, rfl, by omega, by omega⟩
                  clear hf
                  go_wp2
                  go_ret
                  exact ⟨by rw [HR0.out]; rfl, HB5⟩
            · have q5 : (y == 0) = false := beq_false_of_ne hy0
              have q6 : (y != 0) = true := by unfold bne; rw [q5]; rfl
              clear hf
              go_wp2
              go_ret
              exact ⟨by rw [HR0.out]; rfl, HB5⟩
  · have z1 : ((40 : Int) < (n : Int)) := by omega
    rw [Tr_no fun h => h40 (by rw [hnl]; exact h.1)]
    clear hA hs hnl
    go_enter Tryz.func11, Tryz.ntmps11
    go_wp2
    go_ret
    exact ⟨rfl, Below.refl _ _⟩

end Go.Proofs.YtilggbfjdglaaaaGreatDoor
