/-
  Compare of names, by the reference. By an AI agent.
-/
import Derived.Test.YtkncdohghafeiaaGreatDoorQComp
namespace Go.Proofs.YtkncdohghafeiaaGreatDoor
open Go.RowKit
set_option linter.unusedVariables false

/-- What the reference's Parts tells, with its error or without. -/
inductive RKey (l : List UInt8) : Prop where
  | no (y : Int) (hy : (y == 0) = false) (hy2 : (y != 0) = true) (h : partsV l = (none, y))
  | ok (T : List (List UInt8)) (ho : TextsOk T) (h : partsV l = (some T, 0))
theorem rkey (l : List UInt8) : RKey l := by
  cases pt l with
  | no er he h => exact .no er (err_ne he).1 (err_ne he).2 h
  | ok T ho h => exact .ok T ho h

theorem rev_at {T : List (List UInt8)} {n i k : Nat} (h : n = T.length) (hi : i < n) (hk : k = n - 1 - i) {x : List UInt8} (hx : T.reverse[i]? = some x) : T[k]? = some x := by
  subst h hk
  rwa [List.getElem?_reverse hi] at hx

set_option maxRecDepth 100000 in
set_option maxHeartbeats 32000000 in
theorem rcompare_text (l m : List UInt8) (hl : l.length ≤ 1000000) (hm : m.length ≤ 1000000) (w : World) (hT : TM w) :
    Calls Tryz.prog 23 #[.string (txt l), .string (txt m)] w fun e w' => e = .returned (.int .i64 (compV l m)) ∧ Below w.heap.size w w' := by
  cases rkey l with
  | no y e1 e2 h =>
    have hP := rp_no hl h w hT
    have hP' := fun w hT => rparts_any m hm w hT
    have hd : compV l m = 0 := by unfold compV; rw [h]
    rw [hd]
    generalize txt l = s at *
    generalize txt m = s2 at *
    clear h hl hd hm
    go_enter Tryz.func23, Tryz.ntmps23
    go_wp2_with (go_at_call 39; fail)
    refine hP.mono ?_
    rintro e w1 ⟨A, c, rfl, hb⟩
    clear hP
    go_wp2_with (go_at_call 39; fail)
    refine (hP' _ (hT.below hb)).mono ?_
    rintro e w2 hpost
    obtain ⟨A2, n2, c2, rfl, _, _, hb2⟩ := hpost.out
    have hb3 := hb.trans (hb2.mono hb.size)
    clear hP' hb hb2 hpost
    go_wp2
    go_ret
    exact ⟨rfl, hb3⟩
  | ok T ho h =>
    have hP := rp_yes hl h w hT
    cases rkey m with
    | no y e1 e2 h' =>
      have hP' := fun w hT => rp_no hm h' w hT
      have hd : compV l m = 0 := by unfold compV; rw [h, h']
      rw [hd]
      generalize txt l = s at *
      generalize txt m = s2 at *
      generalize T.length = n at *
      clear h h' hl hd hm ho
      go_enter Tryz.func23, Tryz.ntmps23
      go_wp2_with (go_at_call 39; fail)
      refine hP.mono ?_
      rintro e w1 ⟨A, c, rfl, _, hb⟩
      clear hP
      go_wp2_with (go_at_call 39; fail)
      refine (hP' _ (hT.below hb)).mono ?_
      rintro e w2 ⟨A2, c2, rfl, hb2⟩
      have hb3 := hb.trans (hb2.mono hb.size)
      clear hP' hb hb2
      go_wp2
      go_ret
      exact ⟨rfl, hb3⟩
    | ok U ho' h' =>
      have hP' := fun w hT => rp_yes hm h' w hT
      have hd : compV l m = cmpL T.reverse U.reverse := by unfold compV; rw [h, h']
      rw [hd]
      have hn12 := ho.le
      have hm12 := ho'.le
      generalize txt l = s at *
      generalize txt m = s2 at *
      obtain ⟨r, hr⟩ : ∃ r, cmpL T.reverse U.reverse = r := ⟨_, rfl⟩
      rw [hr]
      have Hr := hide hr
      obtain ⟨n, hn⟩ : ∃ n, T.length = n := ⟨_, rfl⟩
      obtain ⟨n2, hn2⟩ : ∃ n, U.length = n := ⟨_, rfl⟩
      rw [hn] at hP hn12
      rw [hn2] at hP' hm12
      have H1 := hide hn
      have H2 := hide hn2
      clear h h' hl hd hm ho ho' hn hn2 hr
      go_enter Tryz.func23, Tryz.ntmps23
      go_wp2_with (go_at_call 39; fail)
      refine hP.mono ?_
      rintro e w1 ⟨A, c, rfl, ht, hb⟩
      clear hP
      go_wp2_with (go_at_call 39; fail)
      refine (hP' _ (hT.below hb)).mono ?_
      rintro e w2 ⟨A2, c2, rfl, ht2, hb2⟩
      have hb3 := hb.trans (hb2.mono hb.size)
      have HA := hide ((ht.has.below hb2).upto hb2.size)
      have HB := hide ht2.has
      have HW := hide hb3
      clear hP' hb hb2 ht ht2 hb3
      go_wp2
      go_loopg [9] n (fun q s9 wx => ∃ i : Nat, i + q = n ∧ s9 = .int .i64 ((i : Int) + 1) ∧ Below w2.heap.size w2 wx ∧ i ≤ n2 ∧ Hid (cmpL (T.reverse.drop i) (U.reverse.drop i) = r))
      case atStart => exact ⟨0, by omega, rfl, Below.refl _ _, by omega, hide Hr.out⟩
      case round =>
        obtain ⟨i, hig, rfl, hbr, him, hpre⟩ := hrel
        have hbw := HW.out.trans (hbr.mono HW.out.size)
        cases gk with
        | zero =>
          obtain rfl : i = n := by omega
          have hiz : ¬ ((i : Int) + 1 ≤ (i : Int)) := by omega
          have he := hide (cmp_end (R := T.reverse) (S := U.reverse) (i := i) (by rw [List.length_reverse]; exact H1.out) (by rw [List.length_reverse, H2.out]; exact him))
          by_cases hlt : i < n2
          · have hz : ((i : Int) < (n2 : Int)) := by omega
            have hrv : Hid (r = -1) := hide (by rw [← hpre.out, he.out, if_pos (by rw [List.length_reverse, H2.out]; exact hlt)])
            clear HA HB H1 H2 Hr hpre he hbr
            go_wp2
            go_ret
            exact ⟨by rw [hrv.out]; rfl, hbw⟩
          · obtain rfl : i = n2 := by omega
            have hz : ¬ ((i : Int) < (i : Int)) := by omega
            have hrv : Hid (r = 0) := hide (by rw [← hpre.out, he.out, if_neg (by rw [List.length_reverse, H2.out]; exact hlt)])
            clear HA HB H1 H2 Hr hpre he hbr
            go_wp2
            go_ret
            exact ⟨by rw [hrv.out]; rfl, hbw⟩
        | succ q =>
          have hi : i < n := by omega
          have hiz : (i : Int) + 1 ≤ (n : Int) := by omega
          by_cases hlt : i < n2
          · have hz : (i : Int) + 1 ≤ (n2 : Int) := by omega
            obtain ⟨x, hx⟩ : ∃ x, T.reverse[i]? = some x := ⟨_, List.getElem?_eq_getElem (by rw [List.length_reverse, H1.out]; exact hi)⟩
            obtain ⟨y, hy⟩ : ∃ y, U.reverse[i]? = some y := ⟨_, List.getElem?_eq_getElem (by rw [List.length_reverse, H2.out]; exact hlt)⟩
            obtain ⟨k, hk⟩ : ∃ k, k = n - 1 - i := ⟨_, rfl⟩
            obtain ⟨k2, hk2⟩ : ∃ k, k = n2 - 1 - i := ⟨_, rfl⟩
            have hxt := rev_at H1.out.symm hi hk hx
            have hyt := rev_at H2.out.symm hlt hk2 hy
            have y1 : (n : Int) - ((i : Int) + 1) = (k : Int) := by omega
            have y2 : (n2 : Int) - ((i : Int) + 1) = (k2 : Int) := by omega
            have y3 : (k : Int) < (n : Int) := by omega
            have y4 : (k2 : Int) < (n2 : Int) := by omega
            obtain ⟨g, o, rfl, hg, hrd⟩ := HA.out.texts (fun h => by rw [h] at hxt; simp at hxt)
            obtain ⟨g', o', rfl, hg', hrd'⟩ := HB.out.texts (fun h => by rw [h] at hyt; simp at hyt)
            have c0 := (hbr.cell (p := ⟨g, o + k, none⟩) hg).trans (hrd k x hxt)
            have d0 := (hbr.cell (p := ⟨g', o' + k2, none⟩) hg').trans (hrd' k2 y hyt)
            have hst := cmp_at hx hy
            rw [hpre.out] at hst
            have Hst := hide hst
            have heq := cmp_eqB x y
            have hlt1 : Op.bytesLess (txt x).toList (txt y).toList = decide (x < y) := by rw [txt_bytes, txt_bytes, bytesLess_eq]
            by_cases a1 : x < y
            · have hrv : Hid (r = -1) := hide (by rw [hst]; simp [cmpT, a1])
              rw [decide_eq_true a1] at hlt1 heq
              simp only [Bool.not_true, Bool.false_and] at heq
              generalize txt x = X at *
              generalize txt y = Y at *
              clear HA HB H1 H2 Hr hpre hst hx hy hrd hrd' hxt hyt Hst a1 hk hk2
              go_wp2
              go_quiet (fail)
              go_wp2
              go_ret
              exact ⟨by rw [hrv.out]; rfl, Below.drewN hbw _⟩
            · rw [decide_eq_false a1] at hlt1 heq
              by_cases a2 : y < x
              · have hrv : Hid (r = 1) := hide (by rw [hst]; simp [cmpT, a1, a2])
                rw [decide_eq_true a2] at heq
                simp only [Bool.not_true, Bool.and_false] at heq
                generalize txt x = X at *
                generalize txt y = Y at *
                clear HA HB H1 H2 Hr hpre hst hx hy hrd hrd' hxt hyt Hst a1 a2 hk hk2
                go_wp2
                go_quiet (fail)
                go_wp2
                go_ret
                exact ⟨by rw [hrv.out]; rfl, Below.drewN hbw _⟩
              · have hrv : Hid (cmpL (T.reverse.drop (i + 1)) (U.reverse.drop (i + 1)) = r) := hide (by rw [hst]; simp [cmpT, a1, a2])
                rw [decide_eq_false a2] at heq
                simp only [Bool.not_false, Bool.and_true] at heq
                generalize txt x = X at *
                generalize txt y = Y at *
                clear HA HB H1 H2 Hr hpre hst hx hy hrd hrd' hxt hyt Hst a1 a2 hk hk2
                go_wp2
                go_quiet (fail)
                go_wp2
                go_roundg q
                case measure => omega
                case rel => exact ⟨i + 1, by omega, by go_num, Below.drewN hbr _, by omega, hrv⟩
          · obtain rfl : i = n2 := by omega
            have hz : ¬ ((i : Int) + 1 ≤ (i : Int)) := by omega
            have hz2 : ¬ ((n : Int) < (i : Int)) := by omega
            have hz3 : ((i : Int) < (n : Int)) := by omega
            have hrv : Hid (r = 1) := hide (by rw [← hpre.out]; exact cmp_end2 (by rw [List.length_reverse, H1.out]; exact hi) (by rw [List.length_reverse]; exact H2.out))
            clear HA HB H1 H2 Hr hpre hbr
            go_wp2
            go_ret
            exact ⟨by rw [hrv.out]; rfl, hbw⟩

end Go.Proofs.YtkncdohghafeiaaGreatDoor
