/-
  The statements' own looks: the pairs of either side, whether they are few, whether they are alike, whether the program is awake. By an AI agent.
-/
import Derived.Test.YtihoachcpabkeaaGreatDoorPRParse
import Derived.Test.YtihoachcpabkeaaGreatDoorPRPrint
namespace Go.Proofs.YtihoachcpabkeaaGreatDoor
open Go.RowKit
set_option linter.unusedVariables false

set_option maxRecDepth 100000 in
set_option maxHeartbeats 16000000 in
theorem theirs_any (w : World) (A : Option Addr) (n c : Nat) (l : List P2) (h : Has w w.heap.size 2 A n (prs l)) (hn : n ≤ 10000) :
    Calls Tryz.prog 11 #[.slice A n c] w fun e w' => ∃ v, e = .returned v ∧ w'.ownsRow w.heap.size 43 2 v n (prs l) ∧ Below w.heap.size w w' := by
  have hnl := h.pairs_n
  have HL := hide hnl
  have HH := hide h
  clear hnl h
  go_enter Tryz.func11, Tryz.ntmps11
  go_wp2
  go_loopg [3, 7] n (fun k s3 s7 wx => ∃ i : Nat, i + k = n ∧ s7 = .int .i64 (i : Int) ∧ wx.ownsRow w.heap.size 43 2 s3 i (prs (l.take i)) ∧ Below w.heap.size w wx)
  case atStart => exact ⟨0, by omega, rfl, by simpa [prs] using nil_own _ _ _ _, Below.refl _ _⟩
  case round =>
    obtain ⟨i, hig, rfl, hor, hbr⟩ := hrel
    cases gk with
    | zero =>
      obtain rfl : i = n := by omega
      have hiz : ¬ ((i : Int) < (i : Int)) := by omega
      rw [List.take_of_length_le (by rw [← HL.out]; exact Nat.le_refl _)] at hor
      have Hor := hide hor
      clear hor HL HH
      go_wp2
      go_ret
      exact ⟨_, rfl, Hor.out, hbr⟩
    | succ k =>
      have hi : i < n := by omega
      have hiz : (i : Int) < (n : Int) := by omega
      obtain ⟨a, ha⟩ : ∃ a, l[i]? = some a := ⟨_, List.getElem?_eq_getElem (by rw [← HL.out]; exact hi)⟩
      obtain ⟨g, o, rfl, hg, hrd⟩ := HH.out.reads (fun h => by rw [h] at ha; simp at ha)
      have c0 := (hbr.cell (p := ⟨g, o + i * 2, none⟩) hg).trans (hrd.fst i a ha)
      have c1 := (hbr.cell (p := ⟨g, o + i * 2 + 1, none⟩) hg).trans (hrd.snd i a ha)
      have htk : Hid (prs (l.take (i + 1)) = prs (l.take i) ++ [.string (txt a.1), .string (txt a.2)]) := hide (by
        rw [List.take_add_one, ha]
        simp [prs])
      generalize txt a.1 = U at *
      generalize txt a.2 = V at *
      clear ha hrd HH HL
      have hone := litP wr U V 43
      have hH := Has.own hone
      have hor1 := hor.alloc (.cells #[.string U, .string V] 43)
      have hbr1 := hbr.alloc hbr.size (.cells #[.string U, .string V] 43)
      have hs1 := hbr1.size
      have h1c : ∀ u ∈ [Value.string U, Value.string V], u.oneCell' = true := by simp [Value.oneCell']
      clear hone hor hbr
      go_wp2_with (at_builtin; go_must (refine appE _ 28 43 _ 2 32 Tryz.underlying28 infoA rfl (by omega) (by omega) rfl (.tmp 10) (.tmp 15) rfl w.heap.size _ i _ rfl hor1 _ _ 1 1 [.string U, .string V] rfl hH h1c (by omega) hs1 ?_))
      intro v' w3 hor3 hb3 _
      have hbr3 := hbr1.trans hb3
      rw [← htk.out] at hor3
      clear hor1 hbr1 hs1 hH hb3 h1c
      go_wp2
      go_roundg k
      case measure => omega
      case rel => exact ⟨i + 1, by omega, by go_num, hor3, hbr3⟩

set_option maxRecDepth 100000 in
set_option maxHeartbeats 16000000 in
theorem ours_any (w : World) (A : Option Addr) (n c : Nat) (l : List P2) (h : Has w w.heap.size 2 A n (prs l)) (hn : n ≤ 10000) :
    Calls Tryz.prog 18 #[.slice A n c] w fun e w' => ∃ v, e = .returned v ∧ w'.ownsRow w.heap.size 46 2 v n (prs l) ∧ Below w.heap.size w w' := by
  have hnl := h.pairs_n
  have HL := hide hnl
  have HH := hide h
  clear hnl h
  go_enter Tryz.func18, Tryz.ntmps18
  go_wp2
  go_loopg [3, 7] n (fun k s3 s7 wx => ∃ i : Nat, i + k = n ∧ s7 = .int .i64 (i : Int) ∧ wx.ownsRow w.heap.size 46 2 s3 i (prs (l.take i)) ∧ Below w.heap.size w wx)
  case atStart => exact ⟨0, by omega, rfl, by simpa [prs] using nil_own _ _ _ _, Below.refl _ _⟩
  case round =>
    obtain ⟨i, hig, rfl, hor, hbr⟩ := hrel
    cases gk with
    | zero =>
      obtain rfl : i = n := by omega
      have hiz : ¬ ((i : Int) < (i : Int)) := by omega
      rw [List.take_of_length_le (by rw [← HL.out]; exact Nat.le_refl _)] at hor
      have Hor := hide hor
      clear hor HL HH
      go_wp2
      go_ret
      exact ⟨_, rfl, Hor.out, hbr⟩
    | succ k =>
      have hi : i < n := by omega
      have hiz : (i : Int) < (n : Int) := by omega
      obtain ⟨a, ha⟩ : ∃ a, l[i]? = some a := ⟨_, List.getElem?_eq_getElem (by rw [← HL.out]; exact hi)⟩
      obtain ⟨g, o, rfl, hg, hrd⟩ := HH.out.reads (fun h => by rw [h] at ha; simp at ha)
      have c0 := (hbr.cell (p := ⟨g, o + i * 2, none⟩) hg).trans (hrd.fst i a ha)
      have c1 := (hbr.cell (p := ⟨g, o + i * 2 + 1, none⟩) hg).trans (hrd.snd i a ha)
      have htk : Hid (prs (l.take (i + 1)) = prs (l.take i) ++ [.string (txt a.1), .string (txt a.2)]) := hide (by
        rw [List.take_add_one, ha]
        simp [prs])
      generalize txt a.1 = U at *
      generalize txt a.2 = V at *
      clear ha hrd HH HL
      have hone := litP wr U V 46
      have hH := Has.own hone
      have hor1 := hor.alloc (.cells #[.string U, .string V] 46)
      have hbr1 := hbr.alloc hbr.size (.cells #[.string U, .string V] 46)
      have hs1 := hbr1.size
      have h1c : ∀ u ∈ [Value.string U, Value.string V], u.oneCell' = true := by simp [Value.oneCell']
      clear hone hor hbr
      go_wp2_with (at_builtin; go_must (refine appE _ 22 46 _ 2 32 Tryz.underlying22 infoB rfl (by omega) (by omega) rfl (.tmp 10) (.tmp 15) rfl w.heap.size _ i _ rfl hor1 _ _ 1 1 [.string U, .string V] rfl hH h1c (by omega) hs1 ?_))
      intro v' w3 hor3 hb3 _
      have hbr3 := hbr1.trans hb3
      rw [← htk.out] at hor3
      clear hor1 hbr1 hs1 hH hb3 h1c
      go_wp2
      go_roundg k
      case measure => omega
      case rel => exact ⟨i + 1, by omega, by go_num, hor3, hbr3⟩

/-- Few pairs, and short ones. -/
structure FewP (l : List P2) : Prop where
  each : ∀ a ∈ l, a.1.length ≤ 1000 ∧ a.2.length ≤ 1000
  len : l.length ≤ 51

set_option maxRecDepth 100000 in
set_option maxHeartbeats 16000000 in
theorem few5_any (w : World) (A : Option Addr) (n c : Nat) (l : List P2) (h : Has w w.heap.size 2 A n (prs l)) (b : Bool) (hb : b = true ↔ FewP l) :
    Calls Tryz.prog 9 #[.slice A n c] w fun e w' => e = .returned (.bool b) ∧ w' = w := by
  have hnl := h.pairs_n
  have HL := hide hnl
  have HH := hide h
  have HB := hide hb
  clear hnl h hb
  go_enter Tryz.func9, Tryz.ntmps9
  go_wp2
  go_loopg [6] n (fun k s6 wx => ∃ i : Nat, i + k = n ∧ s6 = .int .i64 (i : Int) ∧ wx = w ∧ i ≤ 51 ∧ Hid (∀ j a, j < i → l[j]? = some a → a.1.length ≤ 1000 ∧ a.2.length ≤ 1000))
  case atStart => exact ⟨0, by omega, rfl, rfl, by omega, hide fun j a h => by omega⟩
  case round =>
    obtain ⟨i, hig, rfl, rfl, h51, hpre⟩ := hrel
    cases gk with
    | zero =>
      obtain rfl : i = n := by omega
      have hiz : ¬ ((i : Int) < (i : Int)) := by omega
      have hbt : Hid (b = true) := hide (HB.out.2 ⟨fun a ha => by
        obtain ⟨j, hj, rfl⟩ := List.mem_iff_getElem.1 ha
        exact hpre.out j _ (by rw [HL.out]; exact hj) (List.getElem?_eq_getElem hj), by rw [← HL.out]; exact h51⟩)
      clear HB hpre HL HH
      go_wp2
      go_ret
      exact ⟨by rw [hbt.out]; rfl, rfl⟩
    | succ k =>
      have hi : i < n := by omega
      have hiz : (i : Int) < (n : Int) := by omega
      obtain ⟨a, ha⟩ : ∃ a, l[i]? = some a := ⟨_, List.getElem?_eq_getElem (by rw [← HL.out]; exact hi)⟩
      obtain ⟨g, o, rfl, hg, hrd⟩ := HH.out.reads (fun h => by rw [h] at ha; simp at ha)
      have c0 := hrd.fst i a ha
      have c1 := hrd.snd i a ha
      have hU : (txt a.1).size = a.1.length := txt_size _
      have hV : (txt a.2).size = a.2.length := txt_size _
      by_cases h1 : 1000 < a.1.length
      · have hbf : Hid (b = false) := hide (by
          cases hbb : b with
          | false => rfl
          | true => have := (HB.out.1 hbb).each a (List.mem_of_getElem? ha); omega)
        have q1 : ((1000 : Int) < ((txt a.1).size : Int)) := by omega
        generalize txt a.1 = U at *
        generalize txt a.2 = V at *
        clear HB hpre HL HH hrd ha hU hV
        go_wp2
        go_ret
        exact ⟨by rw [hbf.out]; rfl, rfl⟩
      · have q1 : ¬ ((1000 : Int) < ((txt a.1).size : Int)) := by omega
        by_cases h2 : 1000 < a.2.length
        · have hbf : Hid (b = false) := hide (by
            cases hbb : b with
            | false => rfl
            | true => have := (HB.out.1 hbb).each a (List.mem_of_getElem? ha); omega)
          have q2 : ((1000 : Int) < ((txt a.2).size : Int)) := by omega
          generalize txt a.1 = U at *
          generalize txt a.2 = V at *
          clear HB hpre HL HH hrd ha hU hV
          go_wp2
          go_ret
          exact ⟨by rw [hbf.out]; rfl, rfl⟩
        · have q2 : ¬ ((1000 : Int) < ((txt a.2).size : Int)) := by omega
          by_cases h3 : 50 < i
          · have hbf : Hid (b = false) := hide (by
              cases hbb : b with
              | false => rfl
              | true => have := (HB.out.1 hbb).len; have := HL.out; omega)
            have q3 : ((50 : Int) < (i : Int)) := by omega
            generalize txt a.1 = U at *
            generalize txt a.2 = V at *
            clear HB hpre HL HH hrd ha hU hV
            go_wp2
            go_ret
            exact ⟨by rw [hbf.out]; rfl, rfl⟩
          · have q3 : ¬ ((50 : Int) < (i : Int)) := by omega
            have hpre2 : Hid (∀ j b, j < i + 1 → l[j]? = some b → b.1.length ≤ 1000 ∧ b.2.length ≤ 1000) := hide fun j b hj hjb => by
              by_cases h : j = i
              · subst h
                rw [ha] at hjb
                obtain rfl := Option.some.inj hjb
                omega
              · exact hpre.out j b (by omega) hjb
            generalize txt a.1 = U at *
            generalize txt a.2 = V at *
            clear HB hpre HL HH hrd ha hU hV
            go_wp2
            go_roundg k
            case measure => omega
            case rel => exact ⟨i + 1, by omega, by go_num, rfl, by omega, hpre2⟩

set_option maxRecDepth 100000 in
set_option maxHeartbeats 16000000 in
theorem same5_any (w : World) (A B : Option Addr) (n m c d : Nat) (l k : List P2) (h : Has w w.heap.size 2 A n (prs l)) (h' : Has w w.heap.size 2 B m (prs k)) (hn : n ≤ 10000) (b : Bool) (hb : b = true ↔ l = k) :
    Calls Tryz.prog 17 #[.slice A n c, .slice B m d] w fun e w' => e = .returned (.bool b) ∧ Below w.heap.size w w' := by
  have hnl := h.pairs_n
  have hmk := h'.pairs_n
  by_cases hnm : n = m
  · subst hnm
    have HL := hide hnl
    have HK := hide hmk
    have HH := hide h
    have HH' := hide h'
    have HB := hide hb
    clear hnl hmk h h' hb
    go_enter Tryz.func17, Tryz.ntmps17
    go_wp2
    go_loopg [13] n (fun r s13 wx => ∃ i : Nat, i + r = n ∧ s13 = .int .i64 (i : Int) ∧ Below w.heap.size w wx ∧ Hid (l.take i = k.take i))
    case atStart => exact ⟨0, by omega, rfl, Below.refl _ _, hide rfl⟩
    case round =>
      obtain ⟨i, hig, rfl, hbr, hpre⟩ := hrel
      cases gk with
      | zero =>
        obtain rfl : i = n := by omega
        have hiz : ¬ ((i : Int) < (i : Int)) := by omega
        have hbt : Hid (b = true) := hide (HB.out.2 (by
          have := hpre.out
          rwa [List.take_of_length_le (by rw [← HL.out]; exact Nat.le_refl _), List.take_of_length_le (by rw [← HK.out]; exact Nat.le_refl _)] at this))
        clear HB hpre HL HH HK HH'
        go_wp2
        go_ret
        exact ⟨by rw [hbt.out]; rfl, hbr⟩
      | succ r =>
        have hi : i < n := by omega
        have hiz : (i : Int) < (n : Int) := by omega
        obtain ⟨x, hx⟩ : ∃ a, l[i]? = some a := ⟨_, List.getElem?_eq_getElem (by rw [← HL.out]; exact hi)⟩
        obtain ⟨y, hy⟩ : ∃ a, k[i]? = some a := ⟨_, List.getElem?_eq_getElem (by rw [← HK.out]; exact hi)⟩
        obtain ⟨g, o, rfl, hg, hrd⟩ := HH.out.reads (fun h => by rw [h] at hx; simp at hx)
        obtain ⟨g', o', rfl, hg', hrd'⟩ := HH'.out.reads (fun h => by rw [h] at hy; simp at hy)
        have c0 := (hbr.cell (p := ⟨g, o + i * 2, none⟩) hg).trans (hrd.fst i x hx)
        have c1 := (hbr.cell (p := ⟨g, o + i * 2 + 1, none⟩) hg).trans (hrd.snd i x hx)
        have d0 := (hbr.cell (p := ⟨g', o' + i * 2, none⟩) hg').trans (hrd'.fst i y hy)
        have d1 := (hbr.cell (p := ⟨g', o' + i * 2 + 1, none⟩) hg').trans (hrd'.snd i y hy)
        by_cases hxy : x = y
        · subst hxy
          have hpre2 : Hid (l.take (i + 1) = k.take (i + 1)) := hide (by rw [List.take_add_one, List.take_add_one, hpre.out, hx, hy])
          generalize txt x.1 = U at *
          generalize txt x.2 = V at *
          clear HB hpre HL HH HK HH' hx hy hrd hrd'
          go_wp2
          go_quiet (fail)
          go_wp2
          go_roundg r
          case measure => omega
          case rel => exact ⟨i + 1, by omega, by go_num, Below.drewN hbr _, hpre2⟩
        · have hbf : Hid (b = false) := hide (by
            cases hbb : b with
            | false => rfl
            | true =>
              have := HB.out.1 hbb
              rw [this, hy] at hx
              exact absurd (Option.some.inj hx).symm hxy)
          by_cases h1 : x.1 = y.1
          · have h2 : ¬ x.2 = y.2 := fun h => hxy (Prod.ext h1 h)
            have e1 := str_eq h1
            have e2 := str_ne h2
            generalize txt x.1 = U at *
            generalize txt x.2 = V at *
            generalize txt y.1 = U' at *
            generalize txt y.2 = V' at *
            clear HB hpre HL HH HK HH' hx hy hrd hrd'
            go_wp2
            go_quiet (fail)
            go_wp2
            go_ret
            exact ⟨by rw [hbf.out]; rfl, Below.drewN hbr _⟩
          · have e1 := str_ne h1
            generalize txt x.1 = U at *
            generalize txt x.2 = V at *
            generalize txt y.1 = U' at *
            generalize txt y.2 = V' at *
            clear HB hpre HL HH HK HH' hx hy hrd hrd'
            go_wp2
            go_quiet (fail)
            go_wp2
            go_ret
            exact ⟨by rw [hbf.out]; rfl, Below.drewN hbr _⟩
  · have hbf : Hid (b = false) := hide (by
      cases hbb : b with
      | false => rfl
      | true =>
        have := hb.1 hbb
        subst this
        omega)
    have hz : ((n : Int) == (m : Int)) = false := beq_false_of_ne (by omega)
    have hz2 : ((n : Int) != (m : Int)) = true := by unfold bne; rw [hz]; rfl
    clear hb hnl hmk h h' hnm
    go_enter Tryz.func17, Tryz.ntmps17
    go_wp2
    go_ret
    exact ⟨by rw [hbf.out]; rfl, Below.refl _ _⟩

theorem same_iff {l : List P2} : (true : Bool) = true ↔ l = l := ⟨fun _ => rfl, fun _ => rfl⟩

theorem norm_word (n v : List UInt8) (h1 : (typ n).2 = 1) (hv : 1 ≤ v.length ∧ v.length ≤ 200) (h0 : (0 : UInt8) ∉ v) (hn : nt v ≠ []) : norm n v = (nt v, 0) := by
  have hf : Formed 1 v := ⟨fun _ => ⟨h0, hn⟩, fun e => (by omega), fun e => (by omega)⟩
  unfold norm
  rw [h1, if_neg (by omega), if_neg (by omega), if_neg, if_pos rfl]
  rintro (h | h | h)
  · omega
  · omega
  · exact h hf

theorem parse_awake : parseP [79, 85, 61, 97, 43, 67, 78, 61, 98] = some [([99, 110], [98]), ([111, 117], [97])] := by
  have h1 : (cuts 43 [79, 85, 61, 97, 43, 67, 78, 61, 98]).length ≤ 3 := by decide
  have h2 : (cuts 43 [79, 85, 61, 97, 43, 67, 78, 61, 98]).mapM rdPairT = some [([111, 117], [97]), ([99, 110], [98])] := by decide
  have h3 : sortP [([111, 117], [97]), ([99, 110], [98])] = [([99, 110], [98]), ([111, 117], [97])] := by decide
  rw [parse_some h1 h2, h3, if_pos]
  refine ⟨by decide, by decide, fun a ha => ?_, by decide⟩
  simp only [List.mem_cons, List.not_mem_nil, or_false] at ha
  rcases ha with rfl | rfl
  · exact ⟨by decide, Or.inl (by decide), by rw [norm_word _ _ (by decide) (by decide) (by decide) (by decide)]⟩
  · exact ⟨by decide, Or.inl (by decide), by rw [norm_word _ _ (by decide) (by decide) (by decide) (by decide)]⟩

set_option maxRecDepth 100000 in
set_option maxHeartbeats 16000000 in
theorem awake5_any (w : World) (hT : TM w) :
    Calls Tryz.prog 8 #[] w fun e w' => e = .returned (.bool true) ∧ Below w.heap.size w w' := by
  have hP := pparse_any ⟨#[79, 85, 61, 97, 43, 67, 78, 61, 98]⟩ (by decide) w hT
  rw [show (⟨#[79, 85, 61, 97, 43, 67, 78, 61, 98]⟩ : ByteArray).data.toList = [79, 85, 61, 97, 43, 67, 78, 61, 98] from rfl, parse_awake] at hP
  go_enter Tryz.func8, Tryz.ntmps8
  go_wp2_with (go_at_call 15; fail)
  refine hP.mono ?_
  rintro e w1 hpost
  obtain ⟨A, n, c, rfl, hn, hH, hb⟩ := hpost.out
  obtain rfl : n = 2 := hn
  obtain ⟨g, o, rfl, hg, hrd⟩ := hH.reads (by simp)
  have c0 := hrd.fst 0 _ rfl
  have c1 := hrd.snd 0 _ rfl
  have e0 : w1.cell? ⟨g, o, none⟩ = some (.string (txt [99, 110])) := by simpa using c0
  have e1 : w1.cell? ⟨g, o + 1, none⟩ = some (.string (txt [98])) := by simpa using c1
  have t0 : ((txt [99, 110]).toList == [99, 110]) = true := by rw [txt_bytes]; rfl
  have t1 : ((txt [98]).toList == [98]) = true := by rw [txt_bytes]; rfl
  generalize txt [99, 110] = U at *
  generalize txt [98] = V at *
  clear hP hH hrd c0 c1 hpost
  go_wp2
  go_ret
  exact ⟨rfl, hb⟩

end Go.Proofs.YtihoachcpabkeaaGreatDoor
