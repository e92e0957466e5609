/-
  Move of a name, by the program and by the reference. By an AI agent.
-/
import Derived.Test.YtkncdohghafeiaaGreatDoorQJoin
namespace Go.Proofs.YtkncdohghafeiaaGreatDoor
open Go.RowKit
set_option linter.unusedVariables false

/-- A name that is moved. -/
noncomputable def moveV (l f t : List UInt8) : List UInt8 × Int := match partsV l with
  | (none, e) => ([], e)
  | (some S, _) => match partsV f with
    | (none, e) => ([], e)
    | (some F, _) => match partsV t with
      | (none, e) => ([], e)
      | (some Z, _) => if undB S F = true then fitV (S.take (S.length - F.length) ++ Z) else ([], 1)
theorem move_1 {l f t : List UInt8} {e : Int} (h : partsV l = (none, e)) : moveV l f t = ([], e) := by unfold moveV; rw [h]
theorem move_2 {l f t : List UInt8} {S : List (List UInt8)} {e : Int} (h : partsV l = (some S, 0)) (h2 : partsV f = (none, e)) : moveV l f t = ([], e) := by unfold moveV; rw [h]; simp only; rw [h2]
theorem move_3 {l f t : List UInt8} {S F : List (List UInt8)} {e : Int} (h : partsV l = (some S, 0)) (h2 : partsV f = (some F, 0)) (h3 : partsV t = (none, e)) : moveV l f t = ([], e) := by unfold moveV; rw [h]; simp only; rw [h2]; simp only; rw [h3]
theorem move_4 {l f t : List UInt8} {S F Z : List (List UInt8)} (h : partsV l = (some S, 0)) (h2 : partsV f = (some F, 0)) (h3 : partsV t = (some Z, 0)) : moveV l f t = if undB S F = true then fitV (S.take (S.length - F.length) ++ Z) else ([], 1) := by unfold moveV; rw [h]; simp only; rw [h2]; simp only; rw [h3]

theorem NT.len {t : List UInt8} (h : NT t) : t.length ≤ 2103 := by
  obtain ⟨p, hp, hn, rfl⟩ := h
  have := ptx_len hp
  unfold ptx at this
  rwa [hn] at this
theorem app_sum {S Z : List (List UInt8)} (hS : TextsOk S) (hZ : TextsOk Z) (k : Nat) : (joinC (S.take k ++ Z)).length ≤ 100000000 := by
  have h := join_lens (S.take k ++ Z) 2103 fun t ht => by
    rcases List.mem_append.1 ht with ht | ht
    · exact (hS.each t (List.mem_of_mem_take ht)).len
    · exact (hZ.each t ht).len
  have h1 := hS.le
  have h2 := hZ.le
  rw [List.length_append, List.length_take] at h
  have h3 : min k S.length + Z.length ≤ 24 := by omega
  have h4 := Nat.mul_le_mul_left 2104 h3
  omega

set_option maxRecDepth 100000 in
set_option maxHeartbeats 64000000 in
theorem pmove_text (l f t : List UInt8) (hl : l.length ≤ 1000000) (hf : f.length ≤ 1000000) (ht : t.length ≤ 1000000) (w : World) (hT : TM w) :
    Calls Tryz.prog 31 #[.string (txt l), .string (txt f), .string (txt t)] w fun e w' => e = .returned (.tuple #[.string (txt (moveV l f t).1), .int .i64 (moveV l f t).2]) ∧ Below w.heap.size w w' := by
  cases rkey l with
  | no y e1 e2 h =>
    have hP := pp_no hl h w hT
    rw [move_1 h]
    generalize txt l = s at *
    generalize txt f = s2 at *
    generalize txt t = s3 at *
    clear h hl hf ht
    go_enter Tryz.func31, Tryz.ntmps31
    go_wp2_with (go_at_call 37; fail)
    refine hP.mono ?_
    rintro e w1 ⟨A, c, rfl, hb⟩
    clear hP
    go_wp2
    go_ret2
    exact ⟨rfl, hb⟩
  | ok S ho h =>
    have hP := pp_yes hl h w hT
    cases rkey f with
    | no y e1 e2 h2 =>
      have hP2 := fun w hT => pp_no hf h2 w hT
      rw [move_2 h h2]
      generalize txt l = s at *
      generalize txt f = s2 at *
      generalize txt t = s3 at *
      generalize S.length = n at *
      clear h h2 hl hf ht ho
      go_enter Tryz.func31, Tryz.ntmps31
      go_wp2_with (go_at_call 37; fail)
      refine hP.mono ?_
      rintro e w1 ⟨A, c, rfl, _, hb⟩
      clear hP
      go_wp2_with (go_at_call 37; fail)
      refine (hP2 _ (hT.below hb)).mono ?_
      rintro e w2 ⟨A2, c2, rfl, hb2⟩
      have hb3 := hb.trans (hb2.mono hb.size)
      clear hP2 hb hb2
      go_wp2
      go_ret2
      exact ⟨rfl, hb3⟩
    | ok F ho2 h2 =>
      have hP2 := fun w hT => pp_yes hf h2 w hT
      cases rkey t with
      | no y e1 e2 h3 =>
        have hP3 := fun w hT => pp_no ht h3 w hT
        rw [move_3 h h2 h3]
        generalize txt l = s at *
        generalize txt f = s2 at *
        generalize txt t = s3 at *
        generalize S.length = n at *
        generalize F.length = n2 at *
        clear h h2 h3 hl hf ht ho ho2
        go_enter Tryz.func31, Tryz.ntmps31
        go_wp2_with (go_at_call 37; fail)
        refine hP.mono ?_
        rintro e w1 ⟨A, c, rfl, _, hb⟩
        clear hP
        go_wp2_with (go_at_call 37; fail)
        refine (hP2 _ (hT.below hb)).mono ?_
        rintro e w2 ⟨A2, c2, rfl, _, hb2⟩
        have hb3 := hb.trans (hb2.mono hb.size)
        clear hP2 hb hb2
        go_wp2_with (go_at_call 37; fail)
        refine (hP3 _ (hT.below hb3)).mono ?_
        rintro e w3 ⟨A3, c3, rfl, hb4⟩
        have hb5 := hb3.trans (hb4.mono hb3.size)
        clear hP3 hb3 hb4
        go_wp2
        go_ret2
        exact ⟨rfl, hb5⟩
      | ok Z ho3 h3 =>
        have hP3 := fun w hT => pp_yes ht h3 w hT
        rw [move_4 h h2 h3]
        have hn12 := ho.le
        have hm12 := ho2.le
        have hk12 := ho3.le
        have hU := hide (fun w A B c d hA hB hc hcm => punder_any w A B S.length c F.length d S F hA hB (by omega) (by omega) hc hcm)
        by_cases hu : undB S F = true
        · rw [if_pos hu]
          rw [hu] at hU
          have hle := (und_yes hu).1
          obtain ⟨k, hk⟩ : ∃ k, k = S.length - F.length := ⟨_, rfl⟩
          rw [← hk]
          have hkn : k ≤ S.length := by omega
          have z1 : (S.length : Int) - (F.length : Int) = (k : Int) := by omega
          have z3 : (k : Int) ≤ (S.length : Int) := by omega
          have hlen : (S.take k).length = k := by rw [List.length_take]; omega
          have hJ := hide (fun w A c hh hc => pjoin_any w A (k + Z.length) c (S.take k ++ Z) hh hc (by omega) (app_sum ho ho3 k))
          have hCon := hide (fun w h A B c d hO hA hB => concat_any w h A B k c Z.length d (S.take k) Z hO hA hB (by omega) (by omega))
          obtain ⟨X0, hX0⟩ : ∃ X, txt (fitV (S.take k ++ Z)).1 = X := ⟨_, rfl⟩
          obtain ⟨y0, hy0⟩ : ∃ y, (fitV (S.take k ++ Z)).2 = y := ⟨_, rfl⟩
          rw [hX0, hy0] at hJ ⊢
          generalize txt l = s at *
          generalize txt f = s2 at *
          generalize txt t = s3 at *
          obtain ⟨n, hn⟩ : ∃ n, S.length = n := ⟨_, rfl⟩
          obtain ⟨n2, hn2⟩ : ∃ n, F.length = n := ⟨_, rfl⟩
          obtain ⟨n3, hn3⟩ : ∃ n, Z.length = n := ⟨_, rfl⟩
          rw [hn] at hP hU z1 z3 hn12 hkn
          rw [hn2] at hP2 hU z1 hm12
          rw [hn3] at hP3 hJ hCon hk12
          clear h h2 h3 hl hf ht ho ho2 ho3 hn hn2 hn3 hu hle hk hlen hX0 hy0
          go_enter Tryz.func31, Tryz.ntmps31
          go_wp2_with (go_at_call 37; fail)
          refine hP.mono ?_
          rintro e w1 ⟨A, c, rfl, t1, hb⟩
          clear hP
          go_wp2_with (go_at_call 37; fail)
          refine (hP2 _ (hT.below hb)).mono ?_
          rintro e w2 ⟨A2, c2, rfl, t2, hb2⟩
          have hb3 := hb.trans (hb2.mono hb.size)
          have hcap := t1.cap
          have hcm := (own_caps t1.own).2
          have H1 := hide ((t1.has.below hb2).upto hb2.size)
          have H2 := hide t2.has
          clear hP2 hb hb2 t1 t2
          go_wp2_with (go_at_call 37; fail)
          refine (hP3 _ (hT.below hb3)).mono ?_
          rintro e w3 ⟨A3, c3, rfl, t3, hb4⟩
          have hb5 := hb3.trans (hb4.mono hb3.size)
          have H3 := hide ((H1.out.below hb4).upto hb4.size)
          have H4 := hide t3.has
          have hU3 := hU.out w3 A A2 c c2 H3.out ((H2.out.below hb4).upto hb4.size) hcap hcm
          unfold maxLen at hcm
          clear hP3 hb3 hb4 t3 H1 H2 hU
          go_wp2_with (go_at_call 48; fail)
          refine hU3.mono ?_
          rintro e w4 ⟨rfl, hb6⟩
          have hb7 := hb5.trans (hb6.mono hb5.size)
          have z4 : (k : Int) ≤ (c : Int) := by omega
          have hTwo := Two.new w4 (.slice A k c) (.slice A3 n3 c3) 54
          have hbb := below1 w4 (.cells #[.slice A k c, .slice A3 n3 c3] 54)
          have hb8 := hb7.trans (hbb.mono hb7.size)
          have hC := hCon.out _ _ _ _ _ _ hTwo (((take_has ((H3.out.below hb6).upto hb6.size) hkn).below hbb).upto hbb.size) ((((H4.out.below hb6).upto hb6.size).below hbb).upto hbb.size)
          clear hU3 hb5 hb6 hTwo hbb hb7 H3 H4 hCon
          go_wp2_with (go_at_call 52; fail)
          refine hC.mono ?_
          rintro e w6 ⟨v, rfl, hown, hb9⟩
          obtain ⟨A6, c6, rfl, hc6, hH6⟩ := own_form hown
          have hb10 := hb8.trans (hb9.mono hb8.size)
          have hJ6 := hJ.out w6 A6 c6 hH6 hc6
          clear hC hown hb8 hb9 hH6 hJ
          go_wp2_with (go_at_call 38; fail)
          refine hJ6.mono ?_
          rintro e w7 ⟨rfl, hb11⟩
          have hb12 := hb10.trans (hb11.mono hb10.size)
          clear hJ6 hb10 hb11
          go_wp2
          go_ret2
          exact ⟨rfl, hb12⟩
        · rw [if_neg hu]
          have huf : undB S F = false := by simpa using hu
          rw [huf] at hU
          generalize txt l = s at *
          generalize txt f = s2 at *
          generalize txt t = s3 at *
          obtain ⟨n, hn⟩ : ∃ n, S.length = n := ⟨_, rfl⟩
          obtain ⟨n2, hn2⟩ : ∃ n, F.length = n := ⟨_, rfl⟩
          obtain ⟨n3, hn3⟩ : ∃ n, Z.length = n := ⟨_, rfl⟩
          rw [hn] at hP hU hn12
          rw [hn2] at hP2 hU hm12
          rw [hn3] at hP3 hk12
          clear h h2 h3 hl hf ht ho ho2 ho3 hn hn2 hn3 hu huf
          go_enter Tryz.func31, Tryz.ntmps31
          go_wp2_with (go_at_call 37; fail)
          refine hP.mono ?_
          rintro e w1 ⟨A, c, rfl, t1, hb⟩
          clear hP
          go_wp2_with (go_at_call 37; fail)
          refine (hP2 _ (hT.below hb)).mono ?_
          rintro e w2 ⟨A2, c2, rfl, t2, hb2⟩
          have hb3 := hb.trans (hb2.mono hb.size)
          have hcap := t1.cap
          have hcm := (own_caps t1.own).2
          have H1 := hide ((t1.has.below hb2).upto hb2.size)
          have H2 := hide t2.has
          clear hP2 hb hb2 t1 t2
          go_wp2_with (go_at_call 37; fail)
          refine (hP3 _ (hT.below hb3)).mono ?_
          rintro e w3 ⟨A3, c3, rfl, t3, hb4⟩
          have hb5 := hb3.trans (hb4.mono hb3.size)
          have hU3 := hU.out w3 A A2 c c2 ((H1.out.below hb4).upto hb4.size) ((H2.out.below hb4).upto hb4.size) hcap hcm
          clear hP3 hb3 hb4 t3 H1 H2 hU hcm
          go_wp2_with (go_at_call 48; fail)
          refine hU3.mono ?_
          rintro e w4 ⟨rfl, hb6⟩
          have hb7 := hb5.trans (hb6.mono hb5.size)
          clear hU3 hb5 hb6
          go_wp2
          go_ret2
          exact ⟨rfl, hb7⟩

set_option maxRecDepth 100000 in
set_option maxHeartbeats 64000000 in
theorem rmove_text (l f t : List UInt8) (hl : l.length ≤ 1000000) (hf : f.length ≤ 1000000) (ht : t.length ≤ 1000000) (w : World) (hT : TM w) :
    Calls Tryz.prog 32 #[.string (txt l), .string (txt f), .string (txt t)] w fun e w' => e = .returned (.tuple #[.string (txt (moveV l f t).1), .int .i64 (moveV l f t).2]) ∧ Below w.heap.size w w' := by
  cases rkey l with
  | no y e1 e2 h =>
    have hP := rp_no hl h w hT
    rw [move_1 h]
    generalize txt l = s at *
    generalize txt f = s2 at *
    generalize txt t = s3 at *
    clear h hl hf ht
    go_enter Tryz.func32, Tryz.ntmps32
    go_wp2_with (go_at_call 39; fail)
    refine hP.mono ?_
    rintro e w1 ⟨A, c, rfl, hb⟩
    clear hP
    go_wp2
    go_ret2
    exact ⟨rfl, hb⟩
  | ok S ho h =>
    have hP := rp_yes hl h w hT
    cases rkey f with
    | no y e1 e2 h2 =>
      have hP2 := fun w hT => rp_no hf h2 w hT
      rw [move_2 h h2]
      generalize txt l = s at *
      generalize txt f = s2 at *
      generalize txt t = s3 at *
      generalize S.length = n at *
      clear h h2 hl hf ht ho
      go_enter Tryz.func32, Tryz.ntmps32
      go_wp2_with (go_at_call 39; fail)
      refine hP.mono ?_
      rintro e w1 ⟨A, c, rfl, _, hb⟩
      clear hP
      go_wp2_with (go_at_call 39; fail)
      refine (hP2 _ (hT.below hb)).mono ?_
      rintro e w2 ⟨A2, c2, rfl, hb2⟩
      have hb3 := hb.trans (hb2.mono hb.size)
      clear hP2 hb hb2
      go_wp2
      go_ret2
      exact ⟨rfl, hb3⟩
    | ok F ho2 h2 =>
      have hP2 := fun w hT => rp_yes hf h2 w hT
      cases rkey t with
      | no y e1 e2 h3 =>
        have hP3 := fun w hT => rp_no ht h3 w hT
        rw [move_3 h h2 h3]
        generalize txt l = s at *
        generalize txt f = s2 at *
        generalize txt t = s3 at *
        generalize S.length = n at *
        generalize F.length = n2 at *
        clear h h2 h3 hl hf ht ho ho2
        go_enter Tryz.func32, Tryz.ntmps32
        go_wp2_with (go_at_call 39; fail)
        refine hP.mono ?_
        rintro e w1 ⟨A, c, rfl, _, hb⟩
        clear hP
        go_wp2_with (go_at_call 39; fail)
        refine (hP2 _ (hT.below hb)).mono ?_
        rintro e w2 ⟨A2, c2, rfl, _, hb2⟩
        have hb3 := hb.trans (hb2.mono hb.size)
        clear hP2 hb hb2
        go_wp2_with (go_at_call 39; fail)
        refine (hP3 _ (hT.below hb3)).mono ?_
        rintro e w3 ⟨A3, c3, rfl, hb4⟩
        have hb5 := hb3.trans (hb4.mono hb3.size)
        clear hP3 hb3 hb4
        go_wp2
        go_ret2
        exact ⟨rfl, hb5⟩
      | ok Z ho3 h3 =>
        have hP3 := fun w hT => rp_yes ht h3 w hT
        rw [move_4 h h2 h3]
        have hn12 := ho.le
        have hm12 := ho2.le
        have hk12 := ho3.le
        have hU := hide (fun w A B c d hA hB hc hcm => rbelow_any w A B S.length c F.length d S F hA hB (by omega) (by omega) hc hcm)
        by_cases hu : undB S F = true
        · rw [if_pos hu]
          rw [hu] at hU
          have hle := (und_yes hu).1
          obtain ⟨k, hk⟩ : ∃ k, k = S.length - F.length := ⟨_, rfl⟩
          rw [← hk] at hU ⊢
          have hlen : (S.take k).length = k := by rw [List.length_take]; omega
          have hk12' : k ≤ 12 := by omega
          have hJ := hide (fun w A c hh => fit_any w A (k + Z.length) c (S.take k ++ Z) hh (by omega) (app_sum ho ho3 k))
          obtain ⟨X0, hX0⟩ : ∃ X, txt (fitV (S.take k ++ Z)).1 = X := ⟨_, rfl⟩
          obtain ⟨y0, hy0⟩ : ∃ y, (fitV (S.take k ++ Z)).2 = y := ⟨_, rfl⟩
          rw [hX0, hy0] at hJ ⊢
          have HLen := hide hlen
          have H1s := hide (strs_one (S.take k))
          have H1z := hide (strs_one Z)
          have HApp := hide (strs_append (S.take k) Z)
          generalize txt l = s at *
          generalize txt f = s2 at *
          generalize txt t = s3 at *
          obtain ⟨n, hn⟩ : ∃ n, S.length = n := ⟨_, rfl⟩
          obtain ⟨n2, hn2⟩ : ∃ n, F.length = n := ⟨_, rfl⟩
          obtain ⟨n3, hn3⟩ : ∃ n, Z.length = n := ⟨_, rfl⟩
          rw [hn] at hP hU hn12
          rw [hn2] at hP2 hU hm12
          rw [hn3] at hP3 hJ hk12
          generalize S.take k = K at *
          clear h h2 h3 hl hf ht ho ho2 ho3 hn hn2 hn3 hu hle hk hlen hX0 hy0
          go_enter Tryz.func32, Tryz.ntmps32
          go_wp2_with (go_at_call 39; fail)
          refine hP.mono ?_
          rintro e w1 ⟨A, c, rfl, t1, hb⟩
          clear hP
          go_wp2_with (go_at_call 39; fail)
          refine (hP2 _ (hT.below hb)).mono ?_
          rintro e w2 ⟨A2, c2, rfl, t2, hb2⟩
          have hb3 := hb.trans (hb2.mono hb.size)
          have hcap := t1.cap
          have hcm := (own_caps t1.own).2
          have H1 := hide ((t1.has.below hb2).upto hb2.size)
          have H2 := hide t2.has
          clear hP2 hb hb2 t1 t2
          go_wp2_with (go_at_call 39; fail)
          refine (hP3 _ (hT.below hb3)).mono ?_
          rintro e w3 ⟨A3, c3, rfl, t3, hb4⟩
          have hb5 := hb3.trans (hb4.mono hb3.size)
          have H4 := hide t3.has
          have hU3 := hU.out w3 A A2 c c2 ((H1.out.below hb4).upto hb4.size) ((H2.out.below hb4).upto hb4.size) hcap hcm
          clear hP3 hb3 hb4 t3 H1 H2 hU hcm hcap
          go_wp2_with (go_at_call 51; fail)
          refine hU3.mono ?_
          rintro e w4 hpost
          obtain ⟨A4, k4, c4, rfl, himp, hb6⟩ := hpost.out
          obtain ⟨hk4, _, hH4⟩ := himp rfl
          clear himp
          rw [HLen.out] at hk4
          subst hk4
          have hb7 := hb5.trans (hb6.mono hb5.size)
          have hown := own_lit w4 #[] 9 0 (by unfold maxLen; omega) rfl
          have hba := below1 w4 (.cells #[] 9)
          have hA4 := hH4.below hba
          have hZ4 := hide (((H4.out.below hb6).upto hb6.size).below hba)
          have hb8 := hb7.trans (hba.mono hb7.size)
          have hs8 := hba.size
          have hsw := hb7.size
          have h1s := H1s.out
          clear hU3 hpost hb5 hb6 hH4 H4 hb7 hba H1s
          obtain ⟨w5, hw5⟩ : ∃ w5, w4.alloc (.cells #[] 9) = w5 := ⟨_, rfl⟩
          rw [hw5] at hown hA4 hZ4 hb8 hs8
          go_wp2_with (at_builtin; go_must (refine appE _ 54 9 _ 1 16 Tryz.underlying54 infoS rfl (by omega) (by omega) rfl (.tmp 46) (.tmp 47) rfl w4.heap.size _ 0 [] rfl hown _ _ k4 _ (strs K) rfl hA4 h1s (by omega) hs8 ?_))
          intro v' w6 hor6 hb9 _
          have hor7 : w6.ownsRow w4.heap.size 9 1 v' k4 (strs K) := by simpa using hor6
          have hZ6 := hZ4.out.below hb9
          have hb10 := hb8.trans (hb9.mono hsw)
          have hs6 := Nat.le_trans hs8 hb9.size
          have h1z := H1z.out
          clear hown hA4 hZ4 hb8 hs8 hor6 hb9 h1s hw5 H1z
          go_wp2_with (at_builtin; go_must (refine appE _ 54 9 _ 1 16 Tryz.underlying54 infoS rfl (by omega) (by omega) rfl (.tmp 48) (.tmp 49) rfl w4.heap.size _ k4 (strs K) rfl hor7 _ _ n3 _ (strs Z) rfl hZ6 h1z (by omega) hs6 ?_))
          intro v7 w7 hor8 hb11 _
          rw [← HApp.out] at hor8
          obtain ⟨A8, c8, rfl, hc8, hH8⟩ := own_form hor8
          have hb12 := hb10.trans (hb11.mono hsw)
          have hJ7 := hJ.out w7 A8 c8 hH8
          clear hor7 hZ6 hb10 hs6 h1z hor8 hb11 hH8 hJ HApp
          go_wp2_with (go_at_call 55; fail)
          refine hJ7.mono ?_
          rintro e w8 ⟨rfl, hw8⟩
          obtain rfl := hw8.symm
          clear hJ7 hw8
          go_wp2
          go_ret2
          exact ⟨rfl, hb12⟩
        · rw [if_neg hu]
          have huf : undB S F = false := by simpa using hu
          rw [huf] at hU
          generalize txt l = s at *
          generalize txt f = s2 at *
          generalize txt t = s3 at *
          obtain ⟨n, hn⟩ : ∃ n, S.length = n := ⟨_, rfl⟩
          obtain ⟨n2, hn2⟩ : ∃ n, F.length = n := ⟨_, rfl⟩
          obtain ⟨n3, hn3⟩ : ∃ n, Z.length = n := ⟨_, rfl⟩
          rw [hn] at hP hU hn12
          rw [hn2] at hP2 hU hm12
          rw [hn3] at hP3 hk12
          clear h h2 h3 hl hf ht ho ho2 ho3 hn hn2 hn3 hu huf
          go_enter Tryz.func32, Tryz.ntmps32
          go_wp2_with (go_at_call 39; fail)
          refine hP.mono ?_
          rintro e w1 ⟨A, c, rfl, t1, hb⟩
          clear hP
          go_wp2_with (go_at_call 39; fail)
          refine (hP2 _ (hT.below hb)).mono ?_
          rintro e w2 ⟨A2, c2, rfl, t2, hb2⟩
          have hb3 := hb.trans (hb2.mono hb.size)
          have hcap := t1.cap
          have hcm := (own_caps t1.own).2
          have H1 := hide ((t1.has.below hb2).upto hb2.size)
          have H2 := hide t2.has
          clear hP2 hb hb2 t1 t2
          go_wp2_with (go_at_call 39; fail)
          refine (hP3 _ (hT.below hb3)).mono ?_
          rintro e w3 ⟨A3, c3, rfl, t3, hb4⟩
          have hb5 := hb3.trans (hb4.mono hb3.size)
          have hU3 := hU.out w3 A A2 c c2 ((H1.out.below hb4).upto hb4.size) ((H2.out.below hb4).upto hb4.size) hcap hcm
          clear hP3 hb3 hb4 t3 H1 H2 hU hcm
          go_wp2_with (go_at_call 51; fail)
          refine hU3.mono ?_
          rintro e w4 hpost
          obtain ⟨A4, k4, c4, rfl, _, hb6⟩ := hpost.out
          have hb7 := hb5.trans (hb6.mono hb5.size)
          clear hU3 hb5 hb6 hpost
          go_wp2
          go_ret2
          exact ⟨rfl, hb7⟩

end Go.Proofs.YtkncdohghafeiaaGreatDoor
