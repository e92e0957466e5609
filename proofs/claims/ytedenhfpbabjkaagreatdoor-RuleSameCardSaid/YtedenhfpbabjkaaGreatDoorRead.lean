/-
  strconv.Atoi in one word; readImaginary, read: of any text something, of a number's text the number. By an AI agent.
-/
import Derived.Test.YtedenhfpbabjkaaGreatDoorTextMath
namespace Go.Proofs.YtedenhfpbabjkaaGreatDoor
open Go.RowKit Flt

/-- The value of an error that isn't nil. -/
def badV (N : Nat) : Value := .iface 100 (.pointer (some ⟨N, 0, none⟩))

theorem atoi_ok (s : ByteArray) (hs : s.size ≤ 281474976710656) (v : Int) (h : Lib.atoiAll s.data.toList = .ok v) (w : World) :
    Calls Tryz.prog 61 #[.string s] w fun e w' => e = .returned (.tuple #[.int .i64 v, .nilIface]) ∧ Below w.heap.size w w' := by
  refine (Tryz.strconv_Atoi_ok s (by omega) v h w).mono ?_
  rintro e w' ⟨rfl, h⟩
  refine ⟨rfl, ?_⟩
  rcases h with rfl | ⟨t, rfl⟩
  · exact Below.refl _ _
  · exact Lib.bytesWorld_below w _ t

structure BadPost (w : World) (e : Ending) (w' : World) : Prop where
  out : ∃ v N, e = .returned (.tuple #[.int .i64 v, badV N]) ∧ Below w.heap.size w w'

theorem atoi_bad (s : ByteArray) (hs : s.size ≤ 281474976710656) (h : ∀ v, Lib.atoiAll s.data.toList ≠ .ok v) (w : World) (hT : Tabs w) :
    Calls Tryz.prog 61 #[.string s] w (BadPost w) := by
  obtain ⟨tp, p, hsyn⟩ := hT.syn
  obtain ⟨tq, q, hrng⟩ := hT.rng
  cases he : Lib.atoiAll s.data.toList
  · exact absurd he (h _)
  · refine (Any.strconv_Atoi_syntax_var Tryz.laysC172 s hs he tp p w hsyn).mono ?_
    rintro e w' ⟨N, rfl, _, _, hb⟩
    exact ⟨_, N, rfl, hb⟩
  · refine (Any.strconv_Atoi_range_var Tryz.laysC172 s hs he tq q w hrng).mono ?_
    rintro e w' ⟨N, rfl, _, _, hb⟩
    exact ⟨_, N, rfl, hb⟩

/-- What readImaginary's tests say of a text. -/
inductive RimCls (s : ByteArray) : Prop where
  | none (h : s.toList.isEmpty = true) (hr : rim s.data.toList = some 1)
  | plus (h : s.toList.isEmpty = false) (k : (s.toList == [43]) = true) (hr : rim s.data.toList = some 1)
  | minus (h : s.toList.isEmpty = false) (k : (s.toList == [43]) = false) (m : (s.toList == [45]) = true) (hr : rim s.data.toList = some (-1))
  | num (h : s.toList.isEmpty = false) (k : (s.toList == [43]) = false) (m : (s.toList == [45]) = false) (hr : rim s.data.toList = match Lib.atoiAll s.data.toList with | .ok v => some v | _ => Option.none)

theorem rim_cls (s : ByteArray) : RimCls s := by
  have hl := Lib.toList_data s
  by_cases h0 : s.data.toList = []
  · exact .none (by rw [hl, h0]; rfl) (by rw [h0]; rfl)
  · have e0 : s.toList.isEmpty = false := by rw [hl]; simpa using h0
    by_cases h1 : s.data.toList = [43]
    · exact .plus e0 (by rw [hl, h1]; rfl) (by rw [h1]; rfl)
    · have e1 : (s.toList == [43]) = false := by rw [hl]; exact beq_false_of_ne h1
      by_cases h2 : s.data.toList = [45]
      · exact .minus e0 e1 (by rw [hl, h2]; rfl) (by rw [h2]; rfl)
      · have e2 : (s.toList == [45]) = false := by rw [hl]; exact beq_false_of_ne h2
        refine .num e0 e1 e2 ?_
        unfold rim
        rw [if_neg (by rintro (h | h); exact h0 h; exact h1 h), if_neg h2]
        cases Lib.atoiAll s.data.toList <;> rfl

set_option maxRecDepth 100000 in
set_option maxHeartbeats 4000000 in
theorem rim_ok (s : ByteArray) (hs : s.size ≤ 281474976710656) (v : Int) (h : rim s.data.toList = some v) (w : World) :
    Calls Tryz.prog 63 #[.string s] w fun e w' => e = .returned (.tuple #[.int .i64 v, .nilIface]) ∧ Below w.heap.size w w' := by
  rcases rim_cls s with ⟨h0, hr⟩ | ⟨h0, h1, hr⟩ | ⟨h0, h1, h2, hr⟩ | ⟨h0, h1, h2, hr⟩ <;> rw [h] at hr
  · obtain rfl := Option.some.inj hr
    clear h hr
    go_enter Tryz.func63, Tryz.ntmps63
    go_wp2
    go_ret2
    exact ⟨rfl, Below.refl _ _⟩
  · obtain rfl := Option.some.inj hr
    clear h hr
    go_enter Tryz.func63, Tryz.ntmps63
    go_wp2
    go_ret2
    exact ⟨rfl, Below.refl _ _⟩
  · obtain rfl := Option.some.inj hr
    clear h hr
    go_enter Tryz.func63, Tryz.ntmps63
    go_wp2
    go_ret2
    exact ⟨rfl, Below.refl _ _⟩
  · have hv : Lib.atoiAll s.data.toList = .ok v := by
      cases he : Lib.atoiAll s.data.toList
      · rw [he] at hr; simp at hr; rw [hr]
      · rw [he] at hr; cases hr
      · rw [he] at hr; cases hr
    have hc := fun w => atoi_ok s hs v hv w
    clear h hr hv
    go_enter Tryz.func63, Tryz.ntmps63
    go_wp2_with (go_at_call 61; refine (hc _).mono ?_; rintro e w' ⟨rfl, hb⟩)
    go_ret2
    exact ⟨rfl, hb⟩

set_option maxRecDepth 100000 in
set_option maxHeartbeats 4000000 in
theorem rim_bad (s : ByteArray) (hs : s.size ≤ 281474976710656) (h : rim s.data.toList = none) (w : World) (hT : Tabs w) :
    Calls Tryz.prog 63 #[.string s] w (BadPost w) := by
  rcases rim_cls s with ⟨h0, hr⟩ | ⟨h0, h1, hr⟩ | ⟨h0, h1, h2, hr⟩ | ⟨h0, h1, h2, hr⟩ <;> rw [h] at hr
  · cases hr
  · cases hr
  · cases hr
  · have hv : ∀ v, Lib.atoiAll s.data.toList ≠ .ok v := by
      intro v he
      rw [he] at hr
      cases hr
    have hc := fun w hT => atoi_bad s hs hv w hT
    clear h hr hv
    go_enter Tryz.func63, Tryz.ntmps63
    go_wp2_with (go_at_call 61; refine (hc _ hT).mono ?_; rintro e w' ⟨v, N, rfl, hb⟩)
    go_ret2
    exact ⟨v, N, rfl, hb⟩

/-- What read answers. -/
structure ReadPost (s : ByteArray) (w : World) (e : Ending) (w' : World) : Prop where
  out : ∃ x y ev, e = .returned (.tuple #[.complex .f64 x y, ev]) ∧ x < 2 ^ 64 ∧ y < 2 ^ 64 ∧ (ev = .nilIface ∨ ∃ N, ev = badV N) ∧
    (∀ a b, Small a → Small b → s.data.toList = text a b → x = fl a ∧ y = fl b ∧ ev = .nilIface) ∧ Below w.heap.size w w'

theorem fl0 : fl 0 = 0 := by decide +kernel

theorem atoi_or (l : List UInt8) : (∃ v, Lib.atoiAll l = .ok v) ∨ ∀ v, Lib.atoiAll l ≠ .ok v := by
  cases h : Lib.atoiAll l
  · exact Or.inl ⟨_, rfl⟩
  · exact Or.inr (fun v e => by cases e)
  · exact Or.inr (fun v e => by cases e)

theorem text_suffix {a b : Int} : Lib.hasSuffix (text a b) [105] = !(decide (b = 0)) := by
  by_cases hb : b = 0
  · subst hb
    have : text a 0 = Lib.itoa a := by unfold text; rw [if_pos rfl]
    rw [this, itoa_suffix]; rfl
  · rw [text_body hb, (suffix_app _).1]; simp [hb]

set_option maxRecDepth 100000 in
set_option maxHeartbeats 4000000 in
theorem read_plain (s : ByteArray) (hs : s.size ≤ 281474976710656) (h : Lib.hasSuffix s.data.toList [105] = false) (w : World) (hT : Tabs w) :
    Calls Tryz.prog 39 #[.string s] w (ReadPost s w) := by
  have hC := fun w => Tryz.strings_CutSuffix s ⟨#[105]⟩ w (by omega)
  have e1 : (ByteArray.mk #[105]).data.toList = ([105] : List UInt8) := rfl
  rw [e1, h] at hC
  have ht : ∀ a b, s.data.toList = text a b → b = 0 ∧ s.data.toList = Lib.itoa a := by
    intro a b e
    rw [e, text_suffix] at h
    have hb : b = 0 := by simpa using h
    subst hb
    refine ⟨rfl, ?_⟩
    rw [e]; unfold text; rw [if_pos rfl]
  clear h e1
  replace ht := hide ht
  go_enter Tryz.func39, Tryz.ntmps39
  go_wp2_with (first
    | (go_at_call 60; refine (hC _).mono ?_; rintro e w' ⟨rfl, rfl⟩)
    | (go_at_call 61; fail))
  rcases atoi_or s.data.toList with ⟨v, hv⟩ | hv
  · refine (atoi_ok s hs v hv _).mono ?_
    rintro e w1 ⟨rfl, hb⟩
    replace hv := hide hv
    go_wp2
    go_ret2
    refine ⟨_, _, _, rfl, fl_lt v, by omega, Or.inl rfl, fun a b ha hb' e => ?_, hb⟩
    obtain ⟨rfl, e2⟩ := ht.out a b e
    have := hv.out
    rw [e2, atoi_itoa ha] at this
    injection this with this
    subst this
    exact ⟨rfl, fl0.symm, rfl⟩
  · refine (atoi_bad s hs hv _ hT).mono ?_
    rintro e w1 ⟨v, N, rfl, hb⟩
    replace hv := hide hv
    go_wp2
    go_ret2
    refine ⟨_, _, _, rfl, fl_lt v, by omega, Or.inr ⟨N, rfl⟩, fun a b ha hb' e => ?_, hb⟩
    obtain ⟨rfl, e2⟩ := ht.out a b e
    exact absurd (by rw [e2]; exact atoi_itoa ha) (hv.out a)

theorem drop_bytes (R : ByteArray) (i : Nat) : (R.extract i R.size).data.toList = R.data.toList.drop i := by
  simp only [ByteArray.data_extract, Array.toList_extract, List.extract_eq_take_drop]
  rw [Lib.size_eq]
  exact List.take_of_length_le (by rw [List.length_drop]; exact Nat.le_refl _)

/-- What the text R ahead of the i gives. -/
structure BodyOk (R : ByteArray) (a b : Int) (v : Int) : Prop where
  last : (a = 0 ∧ v ≤ 0 ∧ rim R.data.toList = some b) ∨ (a ≠ 0 ∧ 0 < v ∧ (R.data.toList).take v.toNat = Lib.itoa a ∧ rim ((R.data.toList).drop v.toNat) = some b)

set_option maxRecDepth 100000 in
set_option maxHeartbeats 8000000 in
theorem read_imag (s : ByteArray) (hs : s.size ≤ 281474976710656) (h : Lib.hasSuffix s.data.toList [105] = true) (w : World) (hT : Tabs w) :
    Calls Tryz.prog 39 #[.string s] w (ReadPost s w) := by
  have hC := fun w => Tryz.strings_CutSuffix s ⟨#[105]⟩ w (by omega)
  have e1 : (ByteArray.mk #[105]).data.toList = ([105] : List UInt8) := rfl
  rw [e1, h] at hC
  obtain ⟨r, hr⟩ := suffix_of h
  have hR : (Lib.trimSuffix s.data.toList [105]) = r := by rw [hr]; exact (suffix_app r).2
  rw [hR] at hC
  have hRs : (ByteArray.mk r.toArray).size ≤ 281474976710656 := by
    have h1 := Lib.size_eq s
    rw [hr] at h1
    simp only [List.length_append, List.length_cons, List.length_nil] at h1
    have h2 : (ByteArray.mk r.toArray).size = r.length := by simp [ByteArray.size]
    omega
  have hRl : (ByteArray.mk r.toArray).data.toList = r := by simp
  have ht : ∀ a b, Small b → s.data.toList = text a b → Ascii (ByteArray.mk r.toArray).data.toList ∧ ∀ v, LastOf (ByteArray.mk r.toArray).data.toList v → BodyOk (ByteArray.mk r.toArray) a b v := by
    intro a b hb e
    rw [e, text_suffix] at h
    have hb0 : b ≠ 0 := by simpa using h
    have e3 : r = body a b := by
      rw [e, text_body hb0] at hr
      exact (List.append_cancel_right hr).symm
    have e4 : (ByteArray.mk r.toArray).data.toList = body a b := by rw [hRl, e3]
    rw [e4]
    refine ⟨body_ascii a b, fun v hv => ⟨?_⟩⟩
    rw [e4]
    rcases body_last hb hb0 hv with ⟨h1, h2, h3⟩ | ⟨h1, h2, h3, h4, h5⟩
    · exact Or.inl ⟨h1, h2, h3⟩
    · exact Or.inr ⟨h1, h2, h4, h5⟩
  generalize ByteArray.mk r.toArray = R at hC hRs ht
  clear h e1 hr hR hRl
  replace ht := hide ht
  have hL := fun w hT => lia_any R (by omega) w hT
  go_enter Tryz.func39, Tryz.ntmps39
  go_wp2_with (first
    | (go_at_call 60; refine (hC _).mono ?_; rintro e w' ⟨rfl, rfl⟩)
    | (go_at_call 62; fail))
  refine (hL _ hT).mono ?_
  intro e w1 hP
  obtain ⟨v, rfl, hv1, hv2, hv3, hb1⟩ := hP.out
  have hT1 := hT.below hb1
  replace hv3 := hide hv3
  by_cases hv0 : 0 < v
  · have hvs : v ≤ (R.size : Int) := by omega
    have hvn : (v.toNat : Int) = v := by omega
    have hX : (R.extract 0 v.toNat).data.toList = R.data.toList.take v.toNat := take_bytes R v.toNat
    have hY : (R.extract v.toNat R.size).data.toList = R.data.toList.drop v.toNat := drop_bytes R v.toNat
    have hXs : (R.extract 0 v.toNat).size ≤ 281474976710656 := by rw [ByteArray.size_extract]; omega
    have hYs : (R.extract v.toNat R.size).size ≤ 281474976710656 := by rw [ByteArray.size_extract]; omega
    generalize hgx : R.extract 0 v.toNat = X at hX hXs
    generalize hgy : R.extract v.toNat R.size = Y at hY hYs
    replace hX := hide hX
    replace hY := hide hY
    clear hP hv2
    go_wp2_with (go_at_call 61; fail)
    rcases atoi_or X.data.toList with ⟨p, hp⟩ | hp
    · refine (atoi_ok X hXs p hp _).mono ?_
      rintro e w2 ⟨rfl, hb2⟩
      replace hp := hide hp
      have hb12 := hb1.trans (hb2.mono hb1.size)
      have key : ∀ a b, Small a → Small b → s.data.toList = text a b → p = a ∧ rim Y.data.toList = some b := by
        intro a b ha hb e
        obtain ⟨hA, hB⟩ := ht.out a b hb e
        rcases (hB v (hv3.out hA)).last with ⟨_, h, _⟩ | ⟨_, _, h4, h5⟩
        · omega
        · have := hp.out
          rw [hX.out, h4, atoi_itoa ha] at this
          injection this with this
          rw [hY.out]
          exact ⟨this.symm, h5⟩
      replace key := hide key
      go_wp2_with (go_at_call 63; fail)
      cases hq : rim Y.data.toList with
      | some q =>
        refine (rim_ok Y hYs q hq _).mono ?_
        rintro e w3 ⟨rfl, hb3⟩
        replace hq := hide hq
        go_wp2
        go_ret2
        refine ⟨_, _, _, rfl, fl_lt p, fl_lt q, Or.inl rfl, fun a b ha hb' e => ?_, hb12.trans (hb3.mono hb12.size)⟩
        obtain ⟨e1, e2⟩ := key.out a b ha hb' e
        have e3 := Option.some.inj (hq.out.symm.trans e2)
        subst e1; subst e3
        exact ⟨rfl, rfl, rfl⟩
      | none =>
        refine (rim_bad Y hYs hq _ (hT.below hb12)).mono ?_
        rintro e w3 ⟨q, N, rfl, hb3⟩
        replace hq := hide hq
        go_wp2
        go_ret2
        refine ⟨_, _, _, rfl, fl_lt p, fl_lt q, Or.inr ⟨N, rfl⟩, fun a b ha hb' e => ?_, hb12.trans (hb3.mono hb12.size)⟩
        obtain ⟨e1, e2⟩ := key.out a b ha hb' e
        have := hq.out.symm.trans e2
        cases this
    · refine (atoi_bad X hXs hp _ hT1).mono ?_
      rintro e w2 ⟨p, N, rfl, hb2⟩
      replace hp := hide hp
      unfold badV
      go_wp2
      go_ret2
      refine ⟨_, _, _, rfl, by omega, by omega, Or.inr ⟨N, rfl⟩, fun a b ha hb' e => ?_, hb1.trans (hb2.mono hb1.size)⟩
      obtain ⟨hA, hB⟩ := ht.out a b hb' e
      rcases (hB v (hv3.out hA)).last with ⟨_, h, _⟩ | ⟨_, _, h4, h5⟩
      · omega
      · exact absurd (by rw [hX.out, h4]; exact atoi_itoa ha) (hp.out a)
  · have key : ∀ a b, Small a → Small b → s.data.toList = text a b → a = 0 ∧ rim R.data.toList = some b := by
      intro a b ha hb e
      obtain ⟨hA, hB⟩ := ht.out a b hb e
      rcases (hB v (hv3.out hA)).last with ⟨h1, _, h3⟩ | ⟨_, h2, _⟩
      · exact ⟨h1, h3⟩
      · omega
    clear hP hv2
    replace key := hide key
    go_wp2_with (go_at_call 63; fail)
    cases hq : rim R.data.toList with
    | some q =>
      refine (rim_ok R hRs q hq _).mono ?_
      rintro e w3 ⟨rfl, hb3⟩
      replace hq := hide hq
      go_wp2
      go_ret2
      refine ⟨_, _, _, rfl, by omega, fl_lt q, Or.inl rfl, fun a b ha hb' e => ?_, hb1.trans (hb3.mono hb1.size)⟩
      obtain ⟨e1, e2⟩ := key.out a b ha hb' e
      have e3 := Option.some.inj (hq.out.symm.trans e2)
      subst e1; subst e3
      exact ⟨fl0.symm, rfl, rfl⟩
    | none =>
      refine (rim_bad R hRs hq _ hT1).mono ?_
      rintro e w3 ⟨q, N, rfl, hb3⟩
      replace hq := hide hq
      go_wp2
      go_ret2
      refine ⟨_, _, _, rfl, by omega, fl_lt q, Or.inr ⟨N, rfl⟩, fun a b ha hb' e => ?_, hb1.trans (hb3.mono hb1.size)⟩
      obtain ⟨e1, e2⟩ := key.out a b ha hb' e
      have := hq.out.symm.trans e2
      cases this

theorem read_any (s : ByteArray) (hs : s.size ≤ 281474976710656) (w : World) (hT : Tabs w) :
    Calls Tryz.prog 39 #[.string s] w (ReadPost s w) := by
  cases h : Lib.hasSuffix s.data.toList [105] with
  | false => exact read_plain s hs h w hT
  | true => exact read_imag s hs h w hT

end Go.Proofs.YtedenhfpbabjkaaGreatDoor
