/-
  Under: whether a name's last parts are another's, by the program and by the reference. By an AI agent.
-/
import Derived.Test.YtkncdohghafeiaaGreatDoorQCall
namespace Go.Proofs.YtkncdohghafeiaaGreatDoor
open Go.RowKit
set_option linter.unusedVariables false

theorem txt_inj {a b : List UInt8} (h : txt a = txt b) : a = b := by have := congrArg (fun x : ByteArray => x.data.toList) h; simpa [txt] using this
theorem map_txt_inj {T U : List (List UInt8)} (h : T.map txt = U.map txt) : T = U := by
  have := congrArg (List.map fun x : ByteArray => x.data.toList) h
  rw [List.map_map, List.map_map] at this
  have e : ((fun x : ByteArray => x.data.toList) ∘ txt) = id := by funext x; exact txt_toList x
  rw [e, List.map_id, List.map_id] at this
  exact this
theorem texts_getD {T : List (List UInt8)} {w : World} {g o : Nat} (h : ∀ (i : Nat) (x : List UInt8), T[i]? = some x → w.cell? ⟨g, o + i, none⟩ = some (.string (txt x))) :
    ∀ j, j < (T.map txt).length → w.cell? ⟨g, o + j, none⟩ = some (.string ((T.map txt).getD j ByteArray.empty)) := by
  intro j hj
  rw [List.length_map] at hj
  rw [h j T[j] (List.getElem?_eq_getElem hj)]
  simp [List.getD_eq_getElem?_getD, hj]

open Classical in
theorem equal_any (w : World) (A B : Option Addr) (n c m d : Nat) (T U : List (List UInt8)) (hA : Has w w.heap.size 1 A n (strs T)) (hB : Has w w.heap.size 1 B m (strs U)) (hn : n ≤ 1000000) (hm : m ≤ 1000000) :
    Calls Tryz.prog 74 #[.slice A n c, .slice B m d] w fun e w' => e = .returned (.bool (decide (T = U))) ∧ Below w.heap.size w w' := by
  have h1 := hA.strs_n
  have h2 := hB.strs_n
  by_cases hnm : n = m
  · by_cases hT : T = []
    · subst hT
      obtain rfl : n = 0 := by simpa using h1
      subst hnm
      obtain rfl : U = [] := List.eq_nil_of_length_eq_zero h2.symm
      refine (Tryz.slices_Equal_string_empty A B c 0 d w (by omega)).mono ?_
      rintro e w' ⟨rfl, rfl⟩
      exact ⟨by simp, Below.refl _ _⟩
    · have hU : U ≠ [] := by
        rintro rfl
        exact hT (List.eq_nil_of_length_eq_zero (by rw [← h1, hnm, h2]; rfl))
      obtain ⟨g1, o1, rfl, _, hc1⟩ := hA.texts hT
      obtain ⟨g2, o2, rfl, _, hc2⟩ := hB.texts hU
      refine (Tryz.slices_Equal_string g1 o1 n c g2 o2 m d (T.map txt) (U.map txt) w (by rw [List.length_map]; omega) (by rw [List.length_map]; omega) (by omega) (by omega) (texts_getD hc1) (texts_getD hc2)).mono ?_
      rintro e w' ⟨rfl, q, rfl⟩
      refine ⟨?_, Below.drewN (Below.refl _ _) q⟩
      rw [List.take_of_length_le (by rw [List.length_map]; omega), List.take_of_length_le (by rw [List.length_map]; omega)]
      by_cases h : T = U
      · subst h; simp
      · have h' : ¬ T.map txt = U.map txt := fun e => h (map_txt_inj e)
        rw [decide_eq_false h, decide_eq_false h']
  · refine (Tryz.slices_Equal_string_lens A B n c m d w hnm).mono ?_
    rintro e w' ⟨rfl, rfl⟩
    have : ¬ T = U := fun h => hnm (by rw [h1, h2, h])
    exact ⟨by rw [decide_eq_false this], Below.refl _ _⟩

theorem und_dec {T U : List (List UInt8)} {n m k : Nat} (h1 : n = T.length) (h2 : m = U.length) (hk : k = n - m) (hle : m ≤ n) (b : Bool) (hb : b = true ↔ T.drop k = U) : undB T U = b := by
  unfold undB
  subst h1 h2 hk
  cases b with
  | true => exact decide_eq_true ⟨hle, hb.1 rfl⟩
  | false => exact decide_eq_false fun h => by have := hb.2 h.2; cases this
theorem und_short {T U : List (List UInt8)} (h : T.length < U.length) : undB T U = false := decide_eq_false fun h' => by have := h'.1; omega

theorem drop_has {w : World} {B g o n k : Nat} {T : List (List UInt8)} (h : Has w B 1 (some ⟨g, o, none⟩) n (strs T)) (hk : k ≤ n) : Has w B 1 (some ⟨g, o + k, none⟩) (n - k) (strs (T.drop k)) := by
  have := h.from_ (k := k) (cap := n + 1) hk (by omega)
  rw [if_neg (by omega)] at this
  have e : (⟨g, o, none⟩ : Addr).add (k * 1) = ⟨g, o + k, none⟩ := by rw [addr_add, Nat.mul_one]
  rw [Option.map_some, e] at this
  have hs : (strs T).drop (k * 1) = strs (T.drop k) := by simp [strs]
  rwa [hs] at this
theorem take_has {w : World} {B n k : Nat} {A : Option Addr} {T : List (List UInt8)} (h : Has w B 1 A n (strs T)) (hk : k ≤ n) : Has w B 1 A k (strs (T.take k)) := by
  have := h.first hk
  have hs : (strs T).take (k * 1) = strs (T.take k) := by simp [strs]
  rwa [hs] at this

set_option maxRecDepth 100000 in
set_option maxHeartbeats 16000000 in
theorem punder_any (w : World) (A B : Option Addr) (n c m d : Nat) (T U : List (List UInt8)) (hA : Has w w.heap.size 1 A n (strs T)) (hB : Has w w.heap.size 1 B m (strs U)) (hn : n ≤ 1000) (hm : m ≤ 1000) (hc : n ≤ c) (hcm : c ≤ maxLen) :
    Calls Tryz.prog 48 #[.slice A n c, .slice B m d] w fun e w' => e = .returned (.bool (undB T U)) ∧ Below w.heap.size w w' := by
  have h1 := hA.strs_n
  have h2 := hB.strs_n
  unfold maxLen at hcm
  by_cases hle : m ≤ n
  · obtain ⟨k, hk⟩ : ∃ k, k = n - m := ⟨_, rfl⟩
    have hu := fun b hb => und_dec h1 h2 hk hle b hb
    have z1 : (n : Int) - (m : Int) = (k : Int) := by omega
    have z2 : n - k = m := by omega
    have z3 : (k : Int) ≤ (n : Int) := by omega
    have z4 : (k : Int) ≤ (c : Int) := by omega
    by_cases hm0 : m = 0
    · subst hm0
      obtain rfl : U = [] := List.eq_nil_of_length_eq_zero h2.symm
      obtain rfl : k = n := by omega
      rw [hu true ⟨fun _ => by rw [List.drop_eq_nil_of_le (by omega)], fun _ => rfl⟩]
      have hE := fun A' c' => equal_any w A' B 0 c' 0 d [] [] ⟨rfl, .inl rfl⟩ hB (by omega) (by omega)
      rw [decide_eq_true rfl] at hE
      clear hu hA hB h1 h2 hk hle z1
      by_cases hck : c = k
      · subst hck
        go_enter Tryz.func48, Tryz.ntmps48
        go_wp2_with (go_at_call 74; fail)
        refine (hE _ _).mono ?_
        rintro e w1 ⟨rfl, hb⟩
        clear hE
        go_wp2
        go_ret
        exact ⟨rfl, hb⟩
      · have z6 : ¬ k = c := fun h => hck h.symm
        go_enter Tryz.func48, Tryz.ntmps48
        go_wp2_with (go_at_call 74; fail)
        refine (hE _ _).mono ?_
        rintro e w1 ⟨rfl, hb⟩
        clear hE
        go_wp2
        go_ret
        exact ⟨rfl, hb⟩
    · have hT : T ≠ [] := by rintro rfl; simp at h1; omega
      obtain ⟨g, o, rfl, _, _⟩ := hA.texts hT
      have hD := drop_has hA (k := k) (by omega)
      rw [z2] at hD
      have hE := fun c' => equal_any w _ B m c' m d _ U hD hB (by omega) (by omega)
      obtain ⟨b, hb⟩ : ∃ b, (decide (T.drop k = U)) = b := ⟨_, rfl⟩
      rw [hu b (by rw [← hb]; exact decide_eq_true_iff)]
      simp only [hb] at hE
      have z5 : ¬ c = k := by omega
      have z6 : ¬ k = c := by omega
      clear hu hA hB h1 h2 hk hle hb hD hT
      go_enter Tryz.func48, Tryz.ntmps48
      go_wp2_with (go_at_call 74; fail)
      refine (hE _).mono ?_
      rintro e w1 ⟨rfl, hb⟩
      clear hE
      go_wp2
      go_ret
      exact ⟨rfl, hb⟩
  · rw [und_short (by omega)]
    have z1 : ¬ (0 : Int) ≤ (n : Int) - (m : Int) := by omega
    clear hA hB h1 h2 hle
    go_enter Tryz.func48, Tryz.ntmps48
    go_wp2
    go_ret
    exact ⟨rfl, Below.refl _ _⟩

/-- What is told of two names' parts. -/
structure BelowPost (R : List (List UInt8)) (b : Bool) (w : World) (e : Ending) (w' : World) : Prop where
  out : ∃ A k c, e = .returned (.tuple #[.slice A k c, .bool b]) ∧ (b = true → k = R.length ∧ k ≤ c ∧ Has w' w'.heap.size 1 A k (strs R)) ∧ Below w.heap.size w w'

set_option maxRecDepth 100000 in
set_option maxHeartbeats 16000000 in
theorem rbelow_any (w : World) (A B : Option Addr) (n c m d : Nat) (T U : List (List UInt8)) (hA : Has w w.heap.size 1 A n (strs T)) (hB : Has w w.heap.size 1 B m (strs U)) (hn : n ≤ 1000) (hm : m ≤ 1000) (hc : n ≤ c) (hcm : c ≤ maxLen) :
    Calls Tryz.prog 51 #[.slice A n c, .slice B m d] w (BelowPost (T.take (T.length - U.length)) (undB T U) w) := by
  have h1 := hA.strs_n
  have h2 := hB.strs_n
  unfold maxLen at hcm
  by_cases hle : m ≤ n
  · obtain ⟨k, hk⟩ : ∃ k, k = n - m := ⟨_, rfl⟩
    have hu := hide (fun b hb => und_dec h1 h2 hk hle b hb)
    have z1 : (n : Int) - (m : Int) = (k : Int) := by omega
    have z2 : ¬ ((n : Int) < (m : Int)) := by omega
    have z3 : (k : Int) ≤ (n : Int) := by omega
    have z4 : (k : Int) ≤ (c : Int) := by omega
    obtain ⟨R, hR⟩ : ∃ R, T.take (T.length - U.length) = R := ⟨_, rfl⟩
    rw [hR]
    have hRk : T.take k = R := by rw [← hR, ← h1, ← h2, ← hk]
    have hRl : k = R.length := by rw [← hRk, List.length_take]; omega
    have HRk := hide hRk
    have HRl := hide hRl
    have HA := hide hA
    have HB := hide hB
    have H1 := hide h1
    have H2 := hide h2
    obtain ⟨b, hb⟩ : ∃ b, undB T U = b := ⟨_, rfl⟩
    rw [hb]
    have Hb := hide hb
    have Hk := hide hk
    clear hR hRk hRl hA hB h1 h2 hb hk
    go_enter Tryz.func51, Tryz.ntmps51
    go_wp2
    go_loopg [20] m (fun r s20 wx => ∃ i : Nat, i + r = m ∧ s20 = .int .i64 (i : Int) ∧ Below w.heap.size w wx ∧ Hid ((T.drop k).take i = U.take i))
    case atStart => exact ⟨0, by omega, rfl, Below.refl _ _, hide rfl⟩
    case round =>
      obtain ⟨i, hig, rfl, hbr, hpre⟩ := hrel
      cases gk with
      | zero =>
        obtain rfl : i = m := by omega
        have hiz : ¬ ((i : Int) < (i : Int)) := by omega
        obtain rfl : b = true := by
          rw [← Hb.out]
          refine hu.out true ⟨fun _ => ?_, fun _ => rfl⟩
          have h := hpre.out
          have l1 : (T.drop k).length = i := by rw [List.length_drop, ← H1.out]; have := Hk.out; omega
          rwa [List.take_of_length_le (by omega), List.take_of_length_le (by rw [← H2.out]; exact Nat.le_refl _)] at h
        have hfin : Hid (Has wr wr.heap.size 1 A k (strs R)) := hide (by
          have := take_has (HA.out.below hbr) (k := k) (by have := Hk.out; omega)
          rw [HRk.out] at this
          exact this.upto hbr.size)
        clear hu HRk HA HB H1 H2 Hb Hk hpre
        go_wp2
        go_ret2
        exact ⟨A, k, c, rfl, fun _ => ⟨HRl.out, by omega, hfin.out⟩, hbr⟩
      | succ r =>
        have hi : i < m := by omega
        have hiz : (i : Int) < (m : Int) := by omega
        have hki : (k : Int) + (i : Int) < (n : Int) := by omega
        obtain ⟨x, hx⟩ : ∃ x, T[k + i]? = some x := ⟨_, List.getElem?_eq_getElem (by rw [← H1.out]; omega)⟩
        obtain ⟨y, hy⟩ : ∃ y, U[i]? = some y := ⟨_, List.getElem?_eq_getElem (by rw [← H2.out]; exact hi)⟩
        obtain ⟨g, o, rfl, hg, hrd⟩ := HA.out.texts (fun h => by rw [h] at hx; simp at hx)
        obtain ⟨g', o', rfl, hg', hrd'⟩ := HB.out.texts (fun h => by rw [h] at hy; simp at hy)
        have c0 := (hbr.cell (p := ⟨g, o + (k + i), none⟩) hg).trans (hrd _ x hx)
        have d0 := (hbr.cell (p := ⟨g', o' + i, none⟩) hg').trans (hrd' _ y hy)
        have hxd : (T.drop k)[i]? = some x := by rw [List.getElem?_drop]; exact hx
        by_cases hxy : x = y
        · subst hxy
          have hpre2 : Hid ((T.drop k).take (i + 1) = U.take (i + 1)) := hide (by rw [List.take_add_one, List.take_add_one, hpre.out, hxd, hy])
          generalize txt x = X at *
          clear hu HRk HA HB H1 H2 Hb Hk hpre hx hy hrd hrd' hxd
          go_wp2
          go_quiet (fail)
          go_wp2
          go_roundg r
          case measure => omega
          case rel => exact ⟨i + 1, by omega, by go_num, Below.drewN hbr _, hpre2⟩
        · have hbf : Hid (b = false) := hide (by
            rw [← Hb.out]
            refine hu.out false ⟨fun e => (by cases e), fun h => ?_⟩
            rw [h, hy] at hxd
            exact absurd (Option.some.inj hxd).symm hxy)
          have e1 := str_ne hxy
          generalize txt x = X at *
          generalize txt y = Y at *
          clear hu HRk HA HB H1 H2 Hb Hk hpre hx hy hrd hrd' hxd hxy
          go_wp2
          go_quiet (fail)
          go_wp2
          go_ret2
          obtain rfl := hbf.out
          exact ⟨none, 0, 0, rfl, fun e => (by cases e), Below.drewN hbr _⟩
  · rw [und_short (by omega)]
    have z1 : ((n : Int) < (m : Int)) := by omega
    clear hA hB h1 h2 hle
    go_enter Tryz.func51, Tryz.ntmps51
    go_wp2
    go_ret2
    exact ⟨none, 0, 0, rfl, fun e => (by cases e), Below.refl _ _⟩

/-- Whether a text's name is under another's. -/
noncomputable def underV (l m : List UInt8) : Bool := match (partsV l).1, (partsV m).1 with
  | some T, some U => undB T U
  | _, _ => false

theorem und_nil (T : List (List UInt8)) : undB T [] = true := by have := und_app T []; rwa [List.append_nil] at this

set_option maxRecDepth 100000 in
set_option maxHeartbeats 16000000 in
theorem punder_text (l m : List UInt8) (hl : l.length ≤ 1000000) (hm : m.length ≤ 1000000) (w : World) (hT : TM w) :
    Calls Tryz.prog 21 #[.string (txt l), .string (txt m)] w fun e w' => e = .returned (.bool (underV l m)) ∧ Below w.heap.size w w' := by
  cases pt l with
  | no er he h =>
    have hP := pp_no hl h w hT
    have hd : underV l m = false := by unfold underV; rw [h]
    rw [hd]
    obtain ⟨e1, e2⟩ := err_ne he
    generalize txt l = s at *
    generalize txt m = s2 at *
    clear h he hl hd hm
    go_enter Tryz.func21, Tryz.ntmps21
    go_wp2_with (go_at_call 37; fail)
    refine hP.mono ?_
    rintro e w1 ⟨A, c, rfl, hb⟩
    clear hP
    go_wp2
    go_ret
    exact ⟨rfl, hb⟩
  | ok T ho h =>
    have hP := pp_yes hl h w hT
    cases pt m with
    | no er he h' =>
      have hP' := fun w hT => pp_no hm h' w hT
      have hd : underV l m = false := by unfold underV; rw [h, h']
      rw [hd]
      obtain ⟨e1, e2⟩ := err_ne he
      generalize txt l = s at *
      generalize txt m = s2 at *
      generalize T.length = n at *
      clear h h' he hl hd hm ho
      go_enter Tryz.func21, Tryz.ntmps21
      go_wp2_with (go_at_call 37; fail)
      refine hP.mono ?_
      rintro e w1 ⟨A, c, rfl, _, hb⟩
      clear hP
      go_wp2_with (go_at_call 37; fail)
      refine (hP' _ (hT.below hb)).mono ?_
      rintro e w2 ⟨A2, c2, rfl, hb2⟩
      have hb3 := hb.trans (hb2.mono hb.size)
      clear hP' hb hb2
      go_wp2
      go_ret
      exact ⟨rfl, hb3⟩
    | ok U ho' h' =>
      have hP' := fun w hT => pp_yes hm h' w hT
      have hd : underV l m = undB T U := by unfold underV; rw [h, h']
      rw [hd]
      have hn12 := ho.le
      have hm12 := ho'.le
      generalize txt l = s at *
      generalize txt m = s2 at *
      have hU := fun w A B c d hA hB hc hcm => punder_any w A B T.length c U.length d T U hA hB (by omega) (by omega) hc hcm
      generalize undB T U = b at *
      generalize T.length = n at *
      generalize U.length = n2 at *
      clear h h' hl hd hm ho ho'
      go_enter Tryz.func21, Tryz.ntmps21
      go_wp2_with (go_at_call 37; fail)
      refine hP.mono ?_
      rintro e w1 ⟨A, c, rfl, ht, hb⟩
      clear hP
      go_wp2_with (go_at_call 37; fail)
      refine (hP' _ (hT.below hb)).mono ?_
      rintro e w2 ⟨A2, c2, rfl, ht2, hb2⟩
      have hb3 := hb.trans (hb2.mono hb.size)
      have hU2 := hU w2 A A2 c c2 ((ht.has.below hb2).upto hb2.size) ht2.has ht.cap (own_caps ht.own).2
      clear hP' hb hb2 hU ht ht2
      go_wp2_with (go_at_call 48; fail)
      refine hU2.mono ?_
      rintro e w4 ⟨rfl, hb4⟩
      have hb5 := hb3.trans (hb4.mono hb3.size)
      clear hU2 hb3 hb4
      go_wp2
      go_ret
      exact ⟨rfl, hb5⟩

set_option maxRecDepth 100000 in
set_option maxHeartbeats 16000000 in
theorem runder_text (l m : List UInt8) (hl : l.length ≤ 1000000) (hm : m.length ≤ 1000000) (w : World) (hT : TM w) :
    Calls Tryz.prog 28 #[.string (txt l), .string (txt m)] w fun e w' => e = .returned (.bool (underV l m)) ∧ Below w.heap.size w w' := by
  have key : ∀ (l : List UInt8) (_ : l.length ≤ 1000000), ∃ (T : List (List UInt8)) (y : Int), T.length ≤ 12 ∧ (∀ w, TM w → Calls Tryz.prog 39 #[.string (txt l)] w fun e w' => ∃ A c, e = .returned (.tuple #[.slice A T.length c, .int .i64 y]) ∧ (Has w' w'.heap.size 1 A T.length (strs T) ∧ (T.length ≤ c → True) ∧ ∃ c', c = c' ∧ (c' ≤ maxLen) ∧ T.length ≤ c') ∧ Below w.heap.size w w') ∧ ((y = 0 ∧ partsV l = (some T, 0)) ∨ ((y == 0) = false ∧ partsV l = (none, y))) := by
    intro l hl
    cases pt l with
    | no er he h =>
      refine ⟨[], er, by simp, fun w hT => (rparts_any l hl w hT).mono ?_, .inr ⟨(err_ne he).1, h⟩⟩
      intro e w' hp
      rw [h] at hp
      obtain ⟨A, n, c, rfl, hn, hown, hb⟩ := hp.out
      obtain rfl : n = 0 := hn
      have := own_caps hown
      exact ⟨A, c, rfl, ⟨⟨rfl, .inl rfl⟩, fun _ => trivial, c, rfl, this.2, this.1⟩, hb⟩
    | ok T ho h =>
      refine ⟨T, 0, ho.le, fun w hT => (rp_yes hl h w hT).mono ?_, .inl ⟨rfl, h⟩⟩
      rintro e w' ⟨A, c, rfl, ht, hb⟩
      exact ⟨A, c, rfl, ⟨ht.has, fun _ => trivial, c, rfl, (own_caps ht.own).2, ht.cap⟩, hb⟩
  obtain ⟨T, y, hn, hP, hy⟩ := key l hl
  obtain ⟨U, z, hn2, hP', hz⟩ := key m hm
  have hU := fun w A B c d hA hB hc hcm => rbelow_any w A B T.length c U.length d T U hA hB (by omega) (by omega) hc hcm
  obtain ⟨b, hb0⟩ : ∃ b, undB T U = b := ⟨_, rfl⟩
  obtain ⟨b2, hb1⟩ : ∃ b2, underV l m = b2 := ⟨_, rfl⟩
  rw [hb1]
  have hres : (y = 0 ∧ z = 0 ∧ b = b2) ∨ (y = 0 ∧ (z == 0) = false ∧ b2 = false) ∨ ((y == 0) = false ∧ b2 = false) := by
    rcases hy with ⟨rfl, h⟩ | ⟨h1, h⟩
    · rcases hz with ⟨rfl, h'⟩ | ⟨h1, h'⟩
      · refine .inl ⟨rfl, rfl, ?_⟩
        rw [← hb0, ← hb1]; unfold underV; rw [h, h']
      · refine .inr (.inl ⟨rfl, h1, ?_⟩)
        rw [← hb1]; unfold underV; rw [h, h']
    · refine .inr (.inr ⟨h1, ?_⟩)
      rw [← hb1]; unfold underV; rw [h]
  rw [hb0] at hU
  generalize txt l = s at *
  generalize txt m = s2 at *
  generalize T.length = n at *
  generalize U.length = n2 at *
  have HRes := hide hres
  clear hy hz hb0 hb1 hl hm key hres
  go_enter Tryz.func28, Tryz.ntmps28
  go_wp2_with (go_at_call 39; fail)
  refine (hP _ hT).mono ?_
  rintro e w1 ⟨A, c, rfl, ⟨hA, _, c', rfl, hcm, hcn⟩, hb⟩
  clear hP
  go_wp2_with (go_at_call 39; fail)
  refine (hP' _ (hT.below hb)).mono ?_
  rintro e w2 ⟨A2, c2, rfl, ⟨hA2, _⟩, hb2⟩
  have hb3 := hb.trans (hb2.mono hb.size)
  have hU2 := hU w2 A A2 c c2 ((hA.below hb2).upto hb2.size) hA2 hcn hcm
  clear hP' hb hb2 hU hA hA2
  go_wp2_with (go_at_call 51; fail)
  refine hU2.mono ?_
  rintro e w4 hpost
  obtain ⟨A4, k4, c4, rfl, _, hb4⟩ := hpost.out
  have hb5 := hb3.trans (hb4.mono hb3.size)
  clear hU2 hb3 hb4 hpost
  rcases HRes.out with ⟨rfl, rfl, rfl⟩ | ⟨rfl, e1, rfl⟩ | ⟨e1, rfl⟩
  all_goals
    clear HRes
    go_wp2
    go_ret
    exact ⟨rfl, hb5⟩

end Go.Proofs.YtkncdohghafeiaaGreatDoor
