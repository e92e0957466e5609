/-
  Under: whether a name's last parts are another's, by the program and by the reference. By an AI agent.
-/
import Derived.Test.YtmidjagjgipabaaGreatDoorQCall
namespace Go.Proofs.YtmidjagjgipabaaGreatDoor
open Go.RowKit
set_option linter.unusedVariables false

theorem txt_inj {a b : List UInt8} (h : txt a = txt b) : a = b := by have := congrArg (fun x : ByteArray => x.data.toList) h; simpa [txt] using this
theorem map_txt_inj {T U : List (List UInt8)} (h : T.map txt = U.map txt) : T = U := by
  have := congrArg (List.map fun x : ByteArray => x.data.toList) h
  rw [List.map_map, List.map_map] at this
  have e : ((fun x : ByteArray => x.data.toList) ∘ txt) = id := by funext x; exact txt_toList x
  rw [e, List.map_id, List.map_id] at this
  exact this
theorem texts_getD {T : List (List UInt8)} {w : World} {g o : Nat} (h : ∀ (i : Nat) (x : List UInt8), T[i]? = some x → w.cell? ⟨g, o + i, none⟩ = some (.string (txt x))) :
    ∀ j, j < (T.map txt).length → w.cell? ⟨g, o + j, none⟩ = some (.string ((T.map txt).getD j ByteArray.empty)) := by
  intro j hj
  rw [List.length_map] at hj
  rw [h j T[j] (List.getElem?_eq_getElem hj)]
  simp [List.getD_eq_getElem?_getD, hj]

open Classical in
theorem equal_any (w : World) (A B : Option Addr) (n c m d : Nat) (T U : List (List UInt8)) (hA : Has w w.heap.size 1 A n (strs T)) (hB : Has w w.heap.size 1 B m (strs U)) (hn : n ≤ 1000000) (hm : m ≤ 1000000) :
    Calls Tryz.prog 34 #[.slice A n c, .slice B m d] w fun e w' => e = .returned (.bool (decide (T = U))) ∧ Below w.heap.size w w' := by
  have h1 := hA.strs_n
  have h2 := hB.strs_n
  by_cases hnm : n = m
  · by_cases hT : T = []
    · subst hT
      obtain rfl : n = 0 := by simpa using h1
      subst hnm
      obtain rfl : U = [] := List.eq_nil_of_length_eq_zero h2.symm
      refine (Tryz.slices_Equal_string_empty A B c 0 d w (by omega)).mono ?_
      rintro e w' ⟨rfl, rfl⟩
      exact ⟨by simp, Below.refl _ _⟩
    · have hU : U ≠ [] := by
        rintro rfl
        exact hT (List.eq_nil_of_length_eq_zero (by rw [← h1, hnm, h2]; rfl))
      obtain ⟨g1, o1, rfl, _, hc1⟩ := hA.texts hT
      obtain ⟨g2, o2, rfl, _, hc2⟩ := hB.texts hU
      refine (Tryz.slices_Equal_string g1 o1 n c g2 o2 m d (T.map txt) (U.map txt) w (by rw [List.length_map]; omega) (by rw [List.length_map]; omega) (by omega) (by omega) (texts_getD hc1) (texts_getD hc2)).mono ?_
      rintro e w' ⟨rfl, q, rfl⟩
      refine ⟨?_, Below.drewN (Below.refl _ _) q⟩
      rw [List.take_of_length_le (by rw [List.length_map]; omega), List.take_of_length_le (by rw [List.length_map]; omega)]
      by_cases h : T = U
      · subst h; simp
      · have h' : ¬ T.map txt = U.map txt := fun e => h (map_txt_inj e)
        rw [decide_eq_false h, decide_eq_false h']
  · refine (Tryz.slices_Equal_string_lens A B n c m d w hnm).mono ?_
    rintro e w' ⟨rfl, rfl⟩
    have : ¬ T = U := fun h => hnm (by rw [h1, h2, h])
    exact ⟨by rw [decide_eq_false this], Below.refl _ _⟩

theorem und_dec {T U : List (List UInt8)} {n m k : Nat} (h1 : n = T.length) (h2 : m = U.length) (hk : k = n - m) (hle : m ≤ n) (b : Bool) (hb : b = true ↔ T.drop k = U) : undB T U = b := by
  unfold undB
  subst h1 h2 hk
  cases b with
  | true => exact decide_eq_true ⟨hle, hb.1 rfl⟩
  | false => exact decide_eq_false fun h => by have := hb.2 h.2; cases this
theorem und_short {T U : List (List UInt8)} (h : T.length < U.length) : undB T U = false := decide_eq_false fun h' => by have := h'.1; omega

theorem drop_has {w : World} {B g o n k : Nat} {T : List (List UInt8)} (h : Has w B 1 (some ⟨g, o, none⟩) n (strs T)) (hk : k ≤ n) : Has w B 1 (some ⟨g, o + k, none⟩) (n - k) (strs (T.drop k)) := by
  have := h.from_ (k := k) (cap := n + 1) hk (by omega)
  rw [if_neg (by omega)] at this
  have e : (⟨g, o, none⟩ : Addr).add (k * 1) = ⟨g, o + k, none⟩ := by rw [addr_add, Nat.mul_one]
  rw [Option.map_some, e] at this
  have hs : (strs T).drop (k * 1) = strs (T.drop k) := by simp [strs]
  rwa [hs] at this
theorem take_has {w : World} {B n k : Nat} {A : Option Addr} {T : List (List UInt8)} (h : Has w B 1 A n (strs T)) (hk : k ≤ n) : Has w B 1 A k (strs (T.take k)) := by
  have := h.first hk
  have hs : (strs T).take (k * 1) = strs (T.take k) := by simp [strs]
  rwa [hs] at this

set_option maxRecDepth 100000 in
set_option maxHeartbeats 16000000 in
theorem punder_any (w : World) (A B : Option Addr) (n c m d : Nat) (T U : List (List UInt8)) (hA : Has w w.heap.size 1 A n (strs T)) (hB : Has w w.heap.size 1 B m (strs U)) (hn : n ≤ 1000) (hm : m ≤ 1000) (hc : n ≤ c) (hcm : c ≤ maxLen) :
    Calls Tryz.prog 18 #[.slice A n c, .slice B m d] w fun e w' => e = .returned (.bool (undB T U)) ∧ Below w.heap.size w w' := by
  have h1 := hA.strs_n
  have h2 := hB.strs_n
  unfold maxLen at hcm
  by_cases hle : m ≤ n
  · obtain ⟨k, hk⟩ : ∃ k, k = n - m := ⟨_, rfl⟩
    have hu := fun b hb => und_dec h1 h2 hk hle b hb
    have z1 : (n : Int) - (m : Int) = (k : Int) := by omega
    have z2 : n - k = m := by omega
    have z3 : (k : Int) ≤ (n : Int) := by omega
    have z4 : (k : Int) ≤ (c : Int) := by omega
    by_cases hm0 : m = 0
    · subst hm0
      obtain rfl : U = [] := List.eq_nil_of_length_eq_zero h2.symm
      obtain rfl : k = n := by omega
      rw [hu true ⟨fun _ => by rw [List.drop_eq_nil_of_le (by omega)], fun _ => rfl⟩]
      have hE := fun A' c' => equal_any w A' B 0 c' 0 d [] [] ⟨rfl, .inl rfl⟩ hB (by omega) (by omega)
      rw [decide_eq_true rfl] at hE
      clear hu hA hB h1 h2 hk hle z1
      by_cases hck : c = k
      · subst hck
        go_enter Tryz.func18, Tryz.ntmps18
        go_wp2_with (go_at_call 34; fail)
        refine (hE _ _).mono ?_
        rintro e w1 ⟨rfl, hb⟩
        clear hE
        go_wp2
        go_ret
        exact ⟨rfl, hb⟩
      · have z6 : ¬ k = c := fun h => hck h.symm
        go_enter Tryz.func18, Tryz.ntmps18
        go_wp2_with (go_at_call 34; fail)
        refine (hE _ _).mono ?_
        rintro e w1 ⟨rfl, hb⟩
        clear hE
        go_wp2
        go_ret
        exact ⟨rfl, hb⟩
    · have hT : T ≠ [] := by rintro rfl; simp at h1; omega
      obtain ⟨g, o, rfl, _, _⟩ := hA.texts hT
      have hD := drop_has hA (k := k) (by omega)
      rw [z2] at hD
      have hE := fun c' => equal_any w _ B m c' m d _ U hD hB (by omega) (by omega)
      obtain ⟨b, hb⟩ : ∃ b, (decide (T.drop k = U)) = b := ⟨_, rfl⟩
      rw [hu b (by rw [← hb]; exact decide_eq_true_iff)]
      simp only [hb] at hE
      have z5 : ¬ c = k := by omega
      have z6 : ¬ k = c := by omega
      clear hu hA hB h1 h2 hk hle hb hD hT
      go_enter Tryz.func18, Tryz.ntmps18
      go_wp2_with (go_at_call 34; fail)
      refine (hE _).mono ?_
      rintro e w1 ⟨rfl, hb⟩
      clear hE
      go_wp2
      go_ret
      exact ⟨rfl, hb⟩
  · rw [und_short (by omega)]
    have z1 : ¬ (0 : Int) ≤ (n : Int) - (m : Int) := by omega
    clear hA hB h1 h2 hle
    go_enter Tryz.func18, Tryz.ntmps18
    go_wp2
    go_ret
    exact ⟨rfl, Below.refl _ _⟩

/-- What is told of two names' parts. -/
structure BelowPost (R : List (List UInt8)) (b : Bool) (w : World) (e : Ending) (w' : World) : Prop where
  out : ∃ A k c, e = .returned (.tuple #[.slice A k c, .bool b]) ∧ (b = true → k = R.length ∧ k ≤ c ∧ Has w' w'.heap.size 1 A k (strs R)) ∧ Below w.heap.size w w'

/-- Whether a text's name is under another's. -/
noncomputable def underV (l m : List UInt8) : Bool := match (partsV l).1, (partsV m).1 with
  | some T, some U => undB T U
  | _, _ => false

theorem und_nil (T : List (List UInt8)) : undB T [] = true := by have := und_app T []; rwa [List.append_nil] at this

set_option maxRecDepth 100000 in
set_option maxHeartbeats 16000000 in
theorem punder_text (l m : List UInt8) (hl : l.length ≤ 1000000) (hm : m.length ≤ 1000000) (w : World) (hT : TM w) :
    Calls Tryz.prog 9 #[.string (txt l), .string (txt m)] w fun e w' => e = .returned (.bool (underV l m)) ∧ Below w.heap.size w w' := by
  cases pt l with
  | no er he h =>
    have hP := pp_no hl h w hT
    have hd : underV l m = false := by unfold underV; rw [h]
    rw [hd]
    obtain ⟨e1, e2⟩ := err_ne he
    generalize txt l = s at *
    generalize txt m = s2 at *
    clear h he hl hd hm
    go_enter Tryz.func9, Tryz.ntmps9
    go_wp2_with (go_at_call 11; fail)
    refine hP.mono ?_
    rintro e w1 ⟨A, c, rfl, hb⟩
    clear hP
    go_wp2
    go_ret
    exact ⟨rfl, hb⟩
  | ok T ho h =>
    have hP := pp_yes hl h w hT
    cases pt m with
    | no er he h' =>
      have hP' := fun w hT => pp_no hm h' w hT
      have hd : underV l m = false := by unfold underV; rw [h, h']
      rw [hd]
      obtain ⟨e1, e2⟩ := err_ne he
      generalize txt l = s at *
      generalize txt m = s2 at *
      generalize T.length = n at *
      clear h h' he hl hd hm ho
      go_enter Tryz.func9, Tryz.ntmps9
      go_wp2_with (go_at_call 11; fail)
      refine hP.mono ?_
      rintro e w1 ⟨A, c, rfl, _, hb⟩
      clear hP
      go_wp2_with (go_at_call 11; fail)
      refine (hP' _ (hT.below hb)).mono ?_
      rintro e w2 ⟨A2, c2, rfl, hb2⟩
      have hb3 := hb.trans (hb2.mono hb.size)
      clear hP' hb hb2
      go_wp2
      go_ret
      exact ⟨rfl, hb3⟩
    | ok U ho' h' =>
      have hP' := fun w hT => pp_yes hm h' w hT
      have hd : underV l m = undB T U := by unfold underV; rw [h, h']
      rw [hd]
      have hn12 := ho.le
      have hm12 := ho'.le
      generalize txt l = s at *
      generalize txt m = s2 at *
      have hU := fun w A B c d hA hB hc hcm => punder_any w A B T.length c U.length d T U hA hB (by omega) (by omega) hc hcm
      generalize undB T U = b at *
      generalize T.length = n at *
      generalize U.length = n2 at *
      clear h h' hl hd hm ho ho'
      go_enter Tryz.func9, Tryz.ntmps9
      go_wp2_with (go_at_call 11; fail)
      refine hP.mono ?_
      rintro e w1 ⟨A, c, rfl, ht, hb⟩
      clear hP
      go_wp2_with (go_at_call 11; fail)
      refine (hP' _ (hT.below hb)).mono ?_
      rintro e w2 ⟨A2, c2, rfl, ht2, hb2⟩
      have hb3 := hb.trans (hb2.mono hb.size)
      have hU2 := hU w2 A A2 c c2 ((ht.has.below hb2).upto hb2.size) ht2.has ht.cap (own_caps ht.own).2
      clear hP' hb hb2 hU ht ht2
      go_wp2_with (go_at_call 18; fail)
      refine hU2.mono ?_
      rintro e w4 ⟨rfl, hb4⟩
      have hb5 := hb3.trans (hb4.mono hb3.size)
      clear hU2 hb3 hb4
      go_wp2
      go_ret
      exact ⟨rfl, hb5⟩

end Go.Proofs.YtmidjagjgipabaaGreatDoor
