/-
  Compare of names, by the program and by the reference. By an AI agent.
-/
import Derived.Test.YtmidjagjgipabaaGreatDoorQUnder
import Derived.Sort.EncStr
namespace Go.Proofs.YtmidjagjgipabaaGreatDoor
open Go.RowKit Go.Sort
set_option linter.unusedVariables false

theorem holds_strs {w : World} {base g n cap : Nat} {T : List (List UInt8)} (h : w.ownsRow base 9 1 (.slice (some ⟨g, 0, none⟩) n cap) n (strs T)) : Holds encStr w g 0 T.toArray := by
  have hn := h.1
  rw [strs_length] at hn
  rcases h.2 with ⟨h0, _⟩ | ⟨g', cap', cur, hv, _, hh, _, _, hsz, _⟩
  · cases h0
  · simp only [Value.slice.injEq, Option.some.injEq, Addr.mk.injEq] at hv
    obtain ⟨⟨rfl, _⟩, _⟩ := hv
    intro j hj
    simp only [List.size_toArray] at hj
    have hc := h.cellAt j (by omega)
    have hf : (strs T)[j]? = some (.string (txt T[j])) := by simp [strs, hj]
    refine ⟨?_, ?_⟩
    · rw [Nat.zero_add, hc, hf]
      simp [encStr, txt, hj]
    · simp [World.frozen?, hh]

theorem reverse_any (w : World) (base : Nat) (A : Option Addr) (n c : Nat) (T : List (List UInt8)) (h : w.ownsRow base 9 1 (.slice A n c) n (strs T)) (hb : base ≤ w.heap.size) (hn : n ≤ 1000000) :
    Calls Tryz.prog 19 #[.slice A n c] w fun e w' => e = .returned (.tuple #[]) ∧ Has w' w'.heap.size 1 A n (strs T.reverse) ∧ w.grownBy w' (Value.slice A n c).ownBlock ∧ Below base w w' := by
  have hnl : n = T.length := by have := h.1; rw [strs_length] at this; omega
  by_cases hT : T = []
  · subst hT
    obtain rfl : n = 0 := by simpa using hnl
    refine (Tryz.slices_Reverse_string_empty A c w).mono ?_
    rintro e w' ⟨rfl, rfl⟩
    exact ⟨rfl, ⟨rfl, .inl rfl⟩, World.grownBy.refl _ _, Below.refl _ _⟩
  · have h0 : 0 < n := by rw [hnl]; exact List.length_pos_iff.2 hT
    obtain ⟨g, cap, hv, hbg, hlt⟩ := h.form h0
    cases hv
    have hH := holds_strs h
    have hcon := Tryz.slices_Reverse_string g 0 c T w hH (by omega)
    rw [← hnl] at hcon
    refine hcon.mono ?_
    rintro e w' ⟨rfl, k, rfl⟩
    have hH2 := holds_putRow encStr (Sort.ahead w k) g 0 T.toArray T.reverse.toArray (holds_ahead encStr w k g 0 T.toArray hH) (by simp)
    have hg : w.grownBy (putRow encStr (Sort.ahead w k) g 0 T.reverse.toArray) (some g) := by
      refine ⟨rfl, rfl, rfl, ?_, fun j hj hne => ?_⟩
      · simp [putRow, mapBlock, Sort.ahead]
      · simp only [putRow, mapBlock, Sort.ahead, Array.getElem?_modify]
        rw [if_neg (fun e => hne (by rw [← e]))]
    refine ⟨rfl, ⟨by rw [strs_length, List.length_reverse]; omega, .inr ⟨_, rfl, Nat.lt_of_lt_of_le hlt hg.size, fun j u hu => ?_⟩⟩, hg, (Below.refl base w).grown hg hb fun b e => by cases e; exact hbg⟩
    have hj : j < T.length := by
      have := (List.getElem?_eq_some_iff.1 hu).1
      rwa [strs_length, List.length_reverse] at this
    have h1 := (hH2 j (by simpa using hj)).1
    have hr : j < T.reverse.length := by rwa [List.length_reverse]
    have hu2 : (strs T.reverse)[j]? = some (.string (txt T.reverse[j])) := by rw [strs, List.getElem?_map, List.getElem?_eq_getElem hr]; rfl
    rw [hu] at hu2
    obtain rfl := Option.some.inj hu2
    rw [Nat.zero_add] at h1
    rw [addr_add, Nat.zero_add, h1]
    congr 1
    have e1 : T.reverse.toArray[j]! = T.reverse[j] := by rw [getElem!_pos _ j (by simpa using hj)]; simp
    rw [e1]; rfl

set_option maxHeartbeats 4000000 in
theorem isnan_any (s : ByteArray) (w : World) : Calls Tryz.prog 56 #[.string s] w fun e w' => e = .returned (.bool false) ∧ w' = w := by
  have e0 : (s.toList == s.toList) = true := by simp
  go_enter Tryz.func56, Tryz.ntmps56
  go_wp2
  go_ret
  exact ⟨rfl, rfl⟩

/-- The order of two texts. -/
def cmpT (x y : List UInt8) : Int := if x < y then -1 else if y < x then 1 else 0

theorem cmp_eqB (x y : List UInt8) : ((txt x).toList == (txt y).toList) = (!decide (x < y) && !decide (y < x)) := by
  by_cases h1 : x < y
  · rw [decide_eq_true h1, str_ne (fun e => by subst e; exact lt_irr _ h1)]; rfl
  · by_cases h2 : y < x
    · rw [decide_eq_true h2, str_ne (fun e => by subst e; exact lt_irr _ h2)]; simp
    · rw [decide_eq_false h1, decide_eq_false h2, str_eq (lt_tri h1 h2)]; rfl

set_option maxHeartbeats 16000000 in
theorem cmpstr_any (x y : List UInt8) (w : World) : Calls Tryz.prog 35 #[.string (txt x), .string (txt y)] w fun e w' => e = .returned (.int .i64 (cmpT x y)) ∧ w' = w := by
  have key : ∀ (p q : Bool) (r : Int) (X Y : ByteArray), Op.bytesLess X.toList Y.toList = p → Op.bytesLess Y.toList X.toList = q → (X.toList == Y.toList) = (!p && !q) → r = (if p = true then -1 else if q = true then 1 else 0) →
      Calls Tryz.prog 35 #[.string X, .string Y] w fun e w' => e = .returned (.int .i64 r) ∧ w' = w := by
    intro p q r X Y hp hq he hr
    have hN := fun s w => isnan_any s w
    go_enter Tryz.func35, Tryz.ntmps35
    go_wp2_with (go_at_call 56; fail)
    refine (hN X _).mono ?_
    rintro e w1 ⟨rfl, hw1⟩
    obtain rfl := hw1.symm
    clear hw1
    go_wp2_with (go_at_call 56; fail)
    refine (hN Y _).mono ?_
    rintro e w1 ⟨rfl, hw1⟩
    obtain rfl := hw1.symm
    clear hw1 hN
    cases p with
    | true =>
      rw [if_pos rfl] at hr
      subst hr
      simp only [Bool.not_true, Bool.false_and] at he
      go_wp2
      go_ret
      exact ⟨rfl, rfl⟩
    | false =>
      rw [if_neg (by simp)] at hr
      cases q with
      | true =>
        rw [if_pos rfl] at hr
        subst hr
        simp only [Bool.not_true, Bool.and_false] at he
        go_wp2
        go_ret
        exact ⟨rfl, rfl⟩
      | false =>
        rw [if_neg (by simp)] at hr
        subst hr
        simp only [Bool.not_false, Bool.and_true] at he
        go_wp2
        go_ret
        exact ⟨rfl, rfl⟩
  refine key (decide (x < y)) (decide (y < x)) _ (txt x) (txt y) (by rw [txt_bytes, txt_bytes, bytesLess_eq]) (by rw [txt_bytes, txt_bytes, bytesLess_eq]) (cmp_eqB x y) ?_
  unfold cmpT
  simp only [decide_eq_true_eq]

theorem cmp_at {R S : List (List UInt8)} {i : Nat} {x y : List UInt8} (hx : R[i]? = some x) (hy : S[i]? = some y) : cmpL (R.drop i) (S.drop i) = if cmpT x y = 0 then cmpL (R.drop (i + 1)) (S.drop (i + 1)) else cmpT x y := by
  obtain ⟨h1, rfl⟩ := List.getElem?_eq_some_iff.1 hx
  obtain ⟨h2, rfl⟩ := List.getElem?_eq_some_iff.1 hy
  rw [List.drop_eq_getElem_cons h1, List.drop_eq_getElem_cons h2]
  unfold cmpT
  conv => lhs; unfold cmpL
  by_cases a1 : R[i] < S[i]
  · simp [a1]
  · by_cases a2 : S[i] < R[i]
    · simp [a1, a2]
    · simp [a1, a2]
theorem cmp_end {R S : List (List UInt8)} {i : Nat} (h1 : R.length = i) (h2 : i ≤ S.length) : cmpL (R.drop i) (S.drop i) = if i < S.length then -1 else 0 := by
  rw [List.drop_eq_nil_of_le (by omega)]
  by_cases h : i < S.length
  · rw [if_pos h, List.drop_eq_getElem_cons h]; rfl
  · rw [if_neg h, List.drop_eq_nil_of_le (by omega)]; rfl
theorem cmp_end2 {R S : List (List UInt8)} {i : Nat} (h1 : i < R.length) (h2 : S.length = i) : cmpL (R.drop i) (S.drop i) = 1 := by
  have e : S.drop i = [] := List.drop_eq_nil_of_le (by omega)
  rw [List.drop_eq_getElem_cons h1, e]; rfl
theorem cmpT_vals (x y : List UInt8) : cmpT x y = -1 ∨ cmpT x y = 0 ∨ cmpT x y = 1 := by
  unfold cmpT
  split
  · exact Or.inl rfl
  · split
    · exact Or.inr (Or.inr rfl)
    · exact Or.inr (Or.inl rfl)

set_option maxRecDepth 100000 in
set_option maxHeartbeats 16000000 in
theorem scompare_any (w : World) (A B : Option Addr) (n c m d : Nat) (R S : List (List UInt8)) (hA : Has w w.heap.size 1 A n (strs R)) (hB : Has w w.heap.size 1 B m (strs S)) (hn : n ≤ 1000000) :
    Calls Tryz.prog 20 #[.slice A n c, .slice B m d] w fun e w' => e = .returned (.int .i64 (cmpL R S)) ∧ w' = w := by
  have h1 := hA.strs_n
  have h2 := hB.strs_n
  obtain ⟨r, hr⟩ : ∃ r, cmpL R S = r := ⟨_, rfl⟩
  rw [hr]
  have HA := hide hA
  have HB := hide hB
  have H1 := hide h1
  have H2 := hide h2
  have Hr := hide hr
  clear hA hB h1 h2 hr
  go_enter Tryz.func20, Tryz.ntmps20
  go_wp2
  go_loopg [11] n (fun k s11 wx => ∃ i : Nat, i + k = n ∧ s11 = .int .i64 (i : Int) ∧ wx = w ∧ i ≤ m ∧ Hid (cmpL (R.drop i) (S.drop i) = r))
  case atStart => exact ⟨0, by omega, rfl, rfl, by omega, hide Hr.out⟩
  case round =>
    obtain ⟨i, hig, rfl, rfl, him, hpre⟩ := hrel
    cases gk with
    | zero =>
      obtain rfl : i = n := by omega
      have hiz : ¬ ((i : Int) < (i : Int)) := by omega
      have he := hide (cmp_end (R := R) (S := S) H1.out.symm (by rw [← H2.out]; exact him))
      by_cases hlt : i < m
      · have hz : ((i : Int) < (m : Int)) := by omega
        have hrv : Hid (r = -1) := hide (by rw [← hpre.out, he.out, if_pos (by rw [← H2.out]; exact hlt)])
        clear HA HB H1 H2 Hr hpre he
        go_wp2
        go_ret
        exact ⟨by rw [hrv.out]; rfl, rfl⟩
      · have hz : ¬ ((i : Int) < (m : Int)) := by omega
        have hrv : Hid (r = 0) := hide (by rw [← hpre.out, he.out, if_neg (by rw [← H2.out]; exact hlt)])
        clear HA HB H1 H2 Hr hpre he
        go_wp2
        go_ret
        exact ⟨by rw [hrv.out]; rfl, rfl⟩
    | succ k =>
      have hi : i < n := by omega
      have hiz : (i : Int) < (n : Int) := by omega
      obtain ⟨x, hx⟩ : ∃ x, R[i]? = some x := ⟨_, List.getElem?_eq_getElem (by rw [← H1.out]; exact hi)⟩
      obtain ⟨g, o, rfl, hg, hrd⟩ := HA.out.texts (fun h => by rw [h] at hx; simp at hx)
      have c0 := hrd i x hx
      by_cases hlt : i < m
      · have hz : ¬ ((m : Int) ≤ (i : Int)) := by omega
        obtain ⟨y, hy⟩ : ∃ y, S[i]? = some y := ⟨_, List.getElem?_eq_getElem (by rw [← H2.out]; exact hlt)⟩
        obtain ⟨g', o', rfl, hg', hrd'⟩ := HB.out.texts (fun h => by rw [h] at hy; simp at hy)
        have d0 := hrd' i y hy
        have hC := fun w => cmpstr_any x y w
        have hst := cmp_at hx hy
        have hv := cmpT_vals x y
        rw [hpre.out] at hst
        have Hst := hide hst
        generalize cmpT x y = z at *
        generalize txt x = X at *
        generalize txt y = Y at *
        clear HA HB H1 H2 Hr hpre hst hx hy hrd hrd'
        go_wp2_with (go_at_call 35; fail)
        refine (hC _).mono ?_
        rintro e w1 ⟨rfl, hw1⟩
        obtain rfl := hw1.symm
        clear hw1 hC
        rcases hv with rfl | rfl | rfl
        · have hrv : Hid (r = -1) := hide (by rw [Hst.out, if_neg (by omega)])
          clear Hst
          go_wp2
          go_ret
          exact ⟨by rw [hrv.out]; rfl, rfl⟩
        · have hrv : Hid (cmpL (R.drop (i + 1)) (S.drop (i + 1)) = r) := hide (by rw [Hst.out, if_pos rfl])
          clear Hst
          go_wp2
          go_roundg k
          case measure => omega
          case rel => exact ⟨i + 1, by omega, by go_num, rfl, by omega, hrv⟩
        · have hrv : Hid (r = 1) := hide (by rw [Hst.out, if_neg (by omega)])
          clear Hst
          go_wp2
          go_ret
          exact ⟨by rw [hrv.out]; rfl, rfl⟩
      · have hz : ((m : Int) ≤ (i : Int)) := by omega
        have hrv : Hid (r = 1) := hide (by rw [← hpre.out]; exact cmp_end2 (by rw [← H1.out]; exact hi) (by rw [← H2.out]; omega))
        generalize txt x = X at *
        clear HA HB H1 H2 Hr hpre hx hrd
        go_wp2
        go_ret
        exact ⟨by rw [hrv.out]; rfl, rfl⟩

/-- The order of two texts' names. -/
noncomputable def compV (l m : List UInt8) : Int := match (partsV l).1, (partsV m).1 with
  | some T, some U => cmpL T.reverse U.reverse
  | _, _ => 0

set_option maxRecDepth 100000 in
set_option maxHeartbeats 16000000 in
theorem pcompare_text (l m : List UInt8) (hl : l.length ≤ 1000000) (hm : m.length ≤ 1000000) (w : World) (hT : TM w) :
    Calls Tryz.prog 10 #[.string (txt l), .string (txt m)] w fun e w' => e = .returned (.int .i64 (compV l m)) ∧ Below w.heap.size w w' := by
  cases pt l with
  | no er he h =>
    have hP := pp_no hl h w hT
    have hd : compV l m = 0 := by unfold compV; rw [h]
    rw [hd]
    obtain ⟨e1, e2⟩ := err_ne he
    generalize txt l = s at *
    generalize txt m = s2 at *
    clear h he hl hd hm
    go_enter Tryz.func10, Tryz.ntmps10
    go_wp2_with (go_at_call 11; fail)
    refine hP.mono ?_
    rintro e w1 ⟨A, c, rfl, hb⟩
    clear hP
    go_wp2
    go_ret
    exact ⟨rfl, hb⟩
  | ok T ho h =>
    have hP := pp_yes hl h w hT
    cases pt m with
    | no er he h' =>
      have hP' := fun w hT => pp_no hm h' w hT
      have hd : compV l m = 0 := by unfold compV; rw [h, h']
      rw [hd]
      obtain ⟨e1, e2⟩ := err_ne he
      generalize txt l = s at *
      generalize txt m = s2 at *
      generalize T.length = n at *
      clear h h' he hl hd hm ho
      go_enter Tryz.func10, Tryz.ntmps10
      go_wp2_with (go_at_call 11; fail)
      refine hP.mono ?_
      rintro e w1 ⟨A, c, rfl, _, hb⟩
      clear hP
      go_wp2_with (go_at_call 11; fail)
      refine (hP' _ (hT.below hb)).mono ?_
      rintro e w2 ⟨A2, c2, rfl, hb2⟩
      have hb3 := hb.trans (hb2.mono hb.size)
      clear hP' hb hb2
      go_wp2
      go_ret
      exact ⟨rfl, hb3⟩
    | ok U ho' h' =>
      have hP' := fun w hT => pp_yes hm h' w hT
      have hd : compV l m = cmpL T.reverse U.reverse := by unfold compV; rw [h, h']
      rw [hd]
      have hn12 := ho.le
      have hm12 := ho'.le
      generalize txt l = s at *
      generalize txt m = s2 at *
      have hS := fun w A B c d hA hB => scompare_any w A B T.length c U.length d T.reverse U.reverse hA hB (by omega)
      generalize cmpL T.reverse U.reverse = z at *
      obtain ⟨n, hn⟩ : ∃ n, T.length = n := ⟨_, rfl⟩
      obtain ⟨n2, hn2⟩ : ∃ n, U.length = n := ⟨_, rfl⟩
      rw [hn] at hP hS hn12
      rw [hn2] at hP' hS hm12
      clear h h' hl hd hm ho ho' hn hn2
      go_enter Tryz.func10, Tryz.ntmps10
      go_wp2_with (go_at_call 11; fail)
      refine hP.mono ?_
      rintro e w1 ⟨A, c, rfl, ht, hb⟩
      clear hP
      go_wp2_with (go_at_call 11; fail)
      refine (hP' _ (hT.below hb)).mono ?_
      rintro e w2 ⟨A2, c2, rfl, ht2, hb2⟩
      have hb3 := hb.trans (hb2.mono hb.size)
      have ho1 := own_below ht.own hb2
      have hR1 := reverse_any w2 w.heap.size A n c T ho1 hb3.size (by omega)
      have hoff : (Value.slice A2 n2 c2).ownBlock = none ∨ (Value.slice A2 n2 c2).ownBlock ≠ (Value.slice A n c).ownBlock := by
        rcases ht2.own.2 with ⟨e, _⟩ | ⟨g, cap, cur, e, hg, _⟩
        · exact .inl (by rw [e]; rfl)
        · refine .inr fun e2 => ?_
          rw [e] at e2
          rcases ht.own.2 with ⟨e3, _⟩ | ⟨g3, cap3, cur3, e3, _, hh3, _⟩
          · rw [e3] at e2; cases e2
          · rw [e3] at e2
            have hlt := (Array.getElem?_eq_some_iff.1 hh3).1
            have : g = g3 := by simpa [Value.ownBlock] using e2
            omega
      have HO2 := hide (own_base ht2.own hb.size)
      have HOff := hide hoff
      clear hP' hb hb2 ho1 ht ht2 hoff
      go_wp2_with (go_at_call 19; fail)
      refine hR1.mono ?_
      rintro e w3 ⟨rfl, hH3, hg3, hb4⟩
      have ho3 := HO2.out.kept hg3 HOff.out
      have hb5 := hb3.trans hb4
      have hR2 := reverse_any w3 w.heap.size A2 n2 c2 U ho3 hb5.size (by omega)
      have HH3 := hide hH3
      have HO3 := hide ho3
      clear hR1 hH3 hg3 hb4 hb3 HO2 ho3
      go_wp2_with (go_at_call 19; fail)
      refine hR2.mono ?_
      rintro e w4 ⟨rfl, hH4, hg4, hb6⟩
      have hb7 := hb5.trans hb6
      have hH5 : Has w4 w4.heap.size 1 A n (strs T.reverse) := by
        refine ⟨HH3.out.1, ?_⟩
        rcases HH3.out.2 with h0 | ⟨ad, rfl, hlt, hc⟩
        · exact .inl h0
        · refine .inr ⟨ad, rfl, Nat.lt_of_lt_of_le hlt hg4.size, fun j u hu => ?_⟩
          refine (World.cell?_of_block ?_).trans (hc j u hu)
          rw [block_add]
          refine hg4.block _ hlt fun e2 => ?_
          rcases HOff.out with h1 | h1
          · rw [h1] at e2; cases e2
          · exact h1 e2.symm
      have hS2 := hS w4 A A2 c c2 hH5 hH4
      clear hR2 HH3 HO3 HOff hH4 hg4 hb6 hb5 hH5 hS
      go_wp2_with (go_at_call 20; fail)
      refine hS2.mono ?_
      rintro e w5 ⟨rfl, hw5⟩
      obtain rfl := hw5.symm
      clear hS2 hw5
      go_wp2
      go_ret
      exact ⟨rfl, hb7⟩

end Go.Proofs.YtmidjagjgipabaaGreatDoor
