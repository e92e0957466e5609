/-
  Print of names, by the program and by the reference. By an AI agent.
-/
import Derived.Test.YtkncdohghafeiaaGreatDoorQSame
namespace Go.Proofs.YtkncdohghafeiaaGreatDoor
open Go.RowKit
set_option linter.unusedVariables false

open Classical in
/-- What a list's print is. -/
noncomputable def printN (L : List (List P2)) : List UInt8 × Int := if L.length ≤ 12 ∧ ∀ p ∈ L, PartOk p then fitV (L.map prP) else ([], 1)
open Classical in
theorem prN_yes {L : List (List P2)} (h : L.length ≤ 12) (h2 : ∀ p ∈ L, PartOk p) : printN L = fitV (L.map prP) := by unfold printN; rw [if_pos ⟨h, h2⟩]
open Classical in
theorem prN_long {L : List (List P2)} (h : 12 < L.length) : printN L = ([], 1) := by unfold printN; rw [if_neg (fun h' => by have := h'.1; omega)]
open Classical in
theorem prN_bad {L : List (List P2)} {p : List P2} (hp : p ∈ L) (h : ¬ PartOk p) : printN L = ([], 1) := by unfold printN; rw [if_neg (fun h' => h (h'.2 p hp))]

/-- The parts are few, and short. -/
structure Few6 (L : List (List P2)) : Prop where
  len : L.length ≤ 40
  each : ∀ p ∈ L, p.length ≤ 10
  pair : ∀ p ∈ L, ∀ a ∈ p, a.1.length ≤ 3000 ∧ a.2.length ≤ 3000

theorem pr_sum {L : List (List P2)} (h12 : L.length ≤ 12) (h : ∀ p ∈ L, PartOk p) : (joinC (L.map prP)).length ≤ 100000 := by
  have := join_lens (L.map prP) 2103 fun t ht => by
    obtain ⟨p, hp, rfl⟩ := List.mem_map.1 ht
    have h1 := prP_len p (h p hp).each
    have h2 := (h p hp).le
    omega
  rw [List.length_map] at this
  omega
theorem strs_more {L : List (List P2)} {i : Nat} {p : List P2} (hp : L[i]? = some p) : strs ((L.map prP).take (i + 1)) = strs ((L.map prP).take i) ++ [.string (txt (prP p))] := by
  have ht : (L.map prP)[i]? = some (prP p) := by rw [List.getElem?_map, hp]; rfl
  rw [List.take_add_one, ht, strs_append]
  rfl

set_option maxRecDepth 100000 in
set_option maxHeartbeats 32000000 in
theorem pprintname_any (w : World) (A : Option Addr) (n c : Nat) (vs : List Value) (L : List (List P2)) (hA : Has w w.heap.size 1 A n vs) (hL : Rows2 w w.heap.size vs L) (hF : Few6 L) (hT : TT w) :
    Calls Tryz.prog 17 #[.agg #[.slice A n c]] w fun e w' => e = .returned (.tuple #[.string (txt (printN L).1), .int .i64 (printN L).2]) ∧ Below w.heap.size w w' := by
  have h1 : n = L.length := by have := hA.1; rw [hL.len] at this; omega
  have hba := below1 w (.cells #[.slice A n c] 26)
  have hNx := Nx.new w (.slice A n c) 26
  have c0a := hNx.c0
  by_cases h12 : 12 < n
  · rw [prN_long (by omega)]
    have z1 : ((12 : Int) < (n : Int)) := by omega
    clear hA hL hF h1 hNx
    go_enter Tryz.func17, Tryz.ntmps17
    go_wp2
    go_ret2
    exact ⟨rfl, hba⟩
  · have z1 : ¬ ((12 : Int) < (n : Int)) := by omega
    obtain ⟨R, hR⟩ : ∃ R, printN L = R := ⟨_, rfl⟩
    rw [hR]
    have hbad : ∀ p ∈ L, ¬ PartOk p → R = ([], 1) := fun p hp h => by rw [← hR]; exact prN_bad hp h
    have hyes : (∀ p ∈ L, PartOk p) → R = fitV (L.map prP) := fun h => by rw [← hR]; exact prN_yes (by omega) h
    have hTa := hT.below hba
    have HA := hide ((hA.below hba).upto hba.size)
    have HL := hide (hL.grow hba)
    have H1 := hide h1
    have HF := hide hF
    have HBad := hide hbad
    have HYes := hide hyes
    have HW := hide hba
    have hlt := hNx.lt
    clear hA hL hF h1 hbad hyes hR hba hNx hT
    obtain ⟨w0, hw0⟩ : ∃ w0, w.alloc (.cells #[.slice A n c] 26) = w0 := ⟨_, rfl⟩
    obtain ⟨B0, hB0⟩ : ∃ B0, w.heap.size = B0 := ⟨_, rfl⟩
    have HB0 := hide hB0
    rw [hw0] at HA HL HW c0a hTa hlt
    rw [hB0] at c0a hlt
    obtain ⟨wm, hmake, hom, hbm⟩ := makeS w0 n (by omega)
    have cm0 := (hbm.cell (p := ⟨B0, 0, none⟩) hlt).trans c0a
    have horm := hom
    have HB1 := hide hbm
    clear hom hbm
    go_enter Tryz.func17, Tryz.ntmps17
    go_wp2
    go_loopg [4, 20] n (fun k s4 s20 wx => ∃ i : Nat, i + k = n ∧ s20 = .int .i64 (i : Int) ∧ wx.ownsRow w0.heap.size 9 1 s4 i (strs ((L.map prP).take i)) ∧ Hid (∀ p ∈ L.take i, PartOk p) ∧ Hid (Below w0.heap.size w0 wx))
    case atStart => exact ⟨0, by omega, rfl, horm, hide fun p hp => (by simp at hp), HB1⟩
    case round =>
      obtain ⟨i, hig, rfl, hor, hok, hB1⟩ := hrel
      clear horm hmake HB1 cm0 c0a hw0 hlt
      have hbr := HW.out.trans (hB1.out.mono HW.out.size)
      cases gk with
      | zero =>
        obtain rfl : i = n := by omega
        have hiz : ¬ ((i : Int) < (i : Int)) := by omega
        have hall : ∀ p ∈ L, PartOk p := by
          have := hok.out
          rwa [List.take_of_length_le (by rw [← H1.out]; exact Nat.le_refl _)] at this
        have hRy := HYes.out hall
        have hsum := pr_sum (L := L) (by rw [← H1.out]; omega) hall
        rw [List.take_of_length_le (by rw [List.length_map, ← H1.out]; exact Nat.le_refl _)] at hor
        obtain ⟨A5, c5, rfl, hc5, hH5⟩ := own_form hor
        have hJ := pjoin_any wr A5 i c5 (L.map prP) hH5 hc5 (by omega) (by omega)
        rw [← hRy] at hJ
        obtain ⟨X, hX⟩ : ∃ X, txt R.1 = X := ⟨_, rfl⟩
        obtain ⟨y, hy⟩ : ∃ y, R.2 = y := ⟨_, rfl⟩
        rw [hX, hy] at hJ
        have HX := hide hX
        have HY := hide hy
        clear hX hy hH5 hor HA HL H1 HF HBad HYes hok hB1 hall hRy hsum
        go_wp2_with (go_at_call 38; fail)
        refine hJ.mono ?_
        rintro e w3 ⟨rfl, hb3⟩
        have hbr3 := hbr.trans (hb3.mono hbr.size)
        clear hJ hb3 hbr
        go_wp2
        go_ret2
        exact ⟨by rw [HX.out, HY.out]; rfl, by first | exact hbr3 | (rw [← HB0.out]; exact hbr3)⟩
      | succ k =>
        have hi : i < n := by omega
        have hiz : (i : Int) < (n : Int) := by omega
        obtain ⟨p, hp⟩ : ∃ p, L[i]? = some p := ⟨_, List.getElem?_eq_getElem (by rw [← H1.out]; exact hi)⟩
        obtain ⟨Ai, ci, hvi, hHi⟩ := HL.out.each i p hp
        obtain ⟨g, o, hAe, hg, ha0⟩ := HA.out.slot hvi
        subst hAe
        have cv0 := (hB1.out.cell (p := ⟨g, o + i, none⟩) hg).trans ha0
        have hHr := (hHi.below hB1.out).upto hB1.out.size
        have hpm := List.mem_of_getElem? hp
        have hTr := hTa.below hB1.out
        have hPr := pprint_any wr Ai p.length ci p hHr (by have := HF.out.each p hpm; omega) (fun a ha => by have := (HF.out.pair p hpm a ha).2; omega) hTr
        have hst := strs_more hp
        by_cases hpo : PartOk p
        · rw [prV_yes hpo] at hPr
          simp only at hPr
          have hok2 : Hid (∀ q ∈ L.take (i + 1), PartOk q) := hide fun q hq => by
            rw [List.take_add_one, hp] at hq
            rcases List.mem_append.1 hq with hq | hq
            · exact hok.out q hq
            · obtain rfl : q = p := by simpa using hq
              exact hpo
          have Hst := hide hst
          generalize txt (prP p) = X at *
          generalize p.length = m at *
          clear hvi hHi ha0 hHr hpm hTr hst hp hpo hok
          go_wp2_with (go_at_call 41; fail)
          refine hPr.mono ?_
          rintro e w4 ⟨rfl, hb4⟩
          have hor4 := own_below hor hb4
          have hB4 := hide (hB1.out.trans (hb4.mono hB1.out.size))
          clear hPr hor hb4 hbr hB1 cv0
          have hone := litS w4 X
          have hH := Has.own hone
          have hor5 := hor4.alloc (.cells #[.string X] 9)
          have hB5 := hide (hB4.out.alloc hB4.out.size (.cells #[.string X] 9))
          have hs5 := hB5.out.size
          have h1c : ∀ u ∈ [Value.string X], u.oneCell' = true := by simp [Value.oneCell']
          clear hone hor4 hB4
          go_wp2_with (at_builtin; go_must (refine appE _ 54 9 _ 1 16 Tryz.underlying54 infoS rfl (by omega) (by omega) rfl (.tmp 31) (.tmp 33) rfl w0.heap.size _ i (strs ((L.map prP).take i)) rfl hor5 _ _ 1 1 [.string X] rfl hH h1c (by omega) hs5 ?_))
          intro v' w6 hor6 hb6 _
          have hB6 := hide (hB5.out.trans hb6)
          rw [← Hst.out] at hor6
          clear hor5 hB5 hs5 hH hb6 h1c Hst
          go_wp2
          go_roundg k
          case measure => omega
          case rel => exact ⟨i + 1, by omega, by go_num, hor6, hok2, hB6⟩
        · rw [prV_no hpo] at hPr
          simp only at hPr
          have hRn := HBad.out p hpm hpo
          subst hRn
          generalize p.length = m at *
          clear hvi hHi ha0 hHr hpm hTr hst hp hpo hok HBad HYes HF HA HL H1 hor
          go_wp2_with (go_at_call 41; fail)
          refine hPr.mono ?_
          rintro e w4 ⟨rfl, hb4⟩
          have hbr4 := hbr.trans (hb4.mono hbr.size)
          clear hPr hb4 hbr hB1 cv0
          go_wp2
          go_ret2
          exact ⟨rfl, by first | exact hbr4 | (rw [← HB0.out]; exact hbr4)⟩

set_option maxRecDepth 100000 in
set_option maxHeartbeats 32000000 in
theorem rprintname_any (w : World) (A : Option Addr) (n c : Nat) (vs : List Value) (L : List (List P2)) (hA : Has w w.heap.size 1 A n vs) (hL : Rows2 w w.heap.size vs L) (hF : Few6 L) (hT : TT w) :
    Calls Tryz.prog 18 #[.slice A n c] w fun e w' => e = .returned (.tuple #[.string (txt (printN L).1), .int .i64 (printN L).2]) ∧ Below w.heap.size w w' := by
  have h1 : n = L.length := by have := hA.1; rw [hL.len] at this; omega
  by_cases h12 : 12 < n
  · rw [prN_long (by omega)]
    have z1 : ((12 : Int) < (n : Int)) := by omega
    clear hA hL hF h1
    go_enter Tryz.func18, Tryz.ntmps18
    go_wp2
    go_ret2
    exact ⟨rfl, Below.refl _ _⟩
  · have z1 : ¬ ((12 : Int) < (n : Int)) := by omega
    obtain ⟨R, hR⟩ : ∃ R, printN L = R := ⟨_, rfl⟩
    rw [hR]
    have hbad : ∀ p ∈ L, ¬ PartOk p → R = ([], 1) := fun p hp h => by rw [← hR]; exact prN_bad hp h
    have hyes : (∀ p ∈ L, PartOk p) → R = fitV (L.map prP) := fun h => by rw [← hR]; exact prN_yes (by omega) h
    have HA := hide hA
    have HL := hide hL
    have H1 := hide h1
    have HF := hide hF
    have HBad := hide hbad
    have HYes := hide hyes
    clear hA hL hF h1 hbad hyes hR
    go_enter Tryz.func18, Tryz.ntmps18
    go_wp2
    go_loopg [4, 13] n (fun k s4 s13 wx => ∃ (i : Nat) (S : ByteArray), i + k = n ∧ s4 = .string S ∧ s13 = .int .i64 (i : Int) ∧ Hid (S = txt (joinC ((L.map prP).take i))) ∧ S.size ≤ 100000 ∧ Hid (∀ p ∈ L.take i, PartOk p) ∧ Below w.heap.size w wx)
    case atStart => exact ⟨0, ⟨#[]⟩, by omega, rfl, rfl, hide (by simp [joinC, txt]), by decide, hide fun p hp => (by simp at hp), Below.refl _ _⟩
    case round =>
      obtain ⟨i, S, hig, rfl, rfl, hS, hSz, hok, hbr⟩ := hrel
      cases gk with
      | zero =>
        obtain rfl : i = n := by omega
        have hiz : ¬ ((i : Int) < (i : Int)) := by omega
        have hall : ∀ p ∈ L, PartOk p := by
          have := hok.out
          rwa [List.take_of_length_le (by rw [← H1.out]; exact Nat.le_refl _)] at this
        have hRy := HYes.out hall
        have hSe := hS.out
        rw [List.take_of_length_le (by rw [List.length_map, ← H1.out]; exact Nat.le_refl _)] at hSe
        have hsz : S.size = (joinC (L.map prP)).length := by rw [hSe, txt_size]
        by_cases h1000 : 1000 < (joinC (L.map prP)).length
        · have hRn : R = ([], 4) := by rw [hRy]; unfold fitV; rw [if_pos (Or.inr h1000)]
          subst hRn
          have z2 : ((1000 : Int) < (S.size : Int)) := by omega
          clear HA HL H1 HF HBad HYes hok hall hRy hS hSe hsz h1000
          go_wp2
          go_ret2
          exact ⟨rfl, hbr⟩
        · have hRn : R = (joinC (L.map prP), 0) := by rw [hRy]; unfold fitV; rw [if_neg (by rw [List.length_map, ← H1.out]; omega)]
          have z2 : ¬ ((1000 : Int) < (S.size : Int)) := by omega
          subst hRn
          have HSe := hide hSe
          clear HA HL H1 HF HBad HYes hok hall hRy hS hSe hsz h1000
          go_wp2
          go_ret2
          exact ⟨by rw [HSe.out]; rfl, hbr⟩
      | succ k =>
        have hi : i < n := by omega
        have hiz : (i : Int) < (n : Int) := by omega
        obtain ⟨p, hp⟩ : ∃ p, L[i]? = some p := ⟨_, List.getElem?_eq_getElem (by rw [← H1.out]; exact hi)⟩
        obtain ⟨Ai, ci, hvi, hHi⟩ := HL.out.each i p hp
        obtain ⟨g, o, hAe, hg, ha0⟩ := HA.out.slot hvi
        subst hAe
        have cv0 := (hbr.cell (p := ⟨g, o + i, none⟩) hg).trans ha0
        have hHr := (hHi.below hbr).upto hbr.size
        have hpm := List.mem_of_getElem? hp
        have hTr := hT.below hbr
        have hPr := rprint_any wr Ai p.length ci p hHr (by have := HF.out.each p hpm; omega) (fun a ha => by have := HF.out.pair p hpm a ha; omega) hTr
        by_cases hpo : PartOk p
        · rw [prV_yes hpo] at hPr
          simp only at hPr
          have hok2 : Hid (∀ q ∈ L.take (i + 1), PartOk q) := hide fun q hq => by
            rw [List.take_add_one, hp] at hq
            rcases List.mem_append.1 hq with hq | hq
            · exact hok.out q hq
            · obtain rfl : q = p := by simpa using hq
              exact hpo
          have ht : (L.map prP)[i]? = some (prP p) := by rw [List.getElem?_map, hp]; rfl
          have htk : (L.map prP).take (i + 1) = (L.map prP).take i ++ [prP p] := by rw [List.take_add_one, ht]; rfl
          have hne : (L.map prP).take i = [] ↔ i = 0 := by
            constructor
            · intro h
              have := congrArg List.length h
              rw [List.length_take, List.length_map] at this
              have h2 := H1.out
              simp only [List.length_nil] at this
              omega
            · rintro rfl; rfl
          have hall : ∀ q ∈ L.take (i + 1), PartOk q := hok2.out
          have hsum := pr_sum (L := L.take (i + 1)) (by rw [List.length_take]; omega) hall
          rw [List.map_take] at hsum
          have hXs : (txt (prP p)).size ≤ 2103 := by
            rw [txt_size]
            have h1 := prP_len p hpo.each
            have h2 := hpo.le
            omega
          by_cases hi0 : i = 0
          · subst hi0
            have hz : ¬ ((0 : Int) < ((0 : Nat) : Int)) := by omega
            have hnx : Hid (S ++ txt (prP p) = txt (joinC ((L.map prP).take (0 + 1)))) := hide (by
              rw [htk, join_snoc, if_pos (hne.2 rfl), hS.out]
              simp only [List.take_zero, joinC]
              rw [txt_app, List.nil_append])
            have hnz : (S ++ txt (prP p)).size ≤ 100000 := by rw [hnx.out, txt_size]; exact hsum
            have c00 : wr.cell? ⟨g, o, none⟩ = some (.slice Ai p.length ci) := by simpa using cv0
            generalize txt (prP p) = X at *
            generalize p.length = m at *
            clear hvi hHi ha0 hHr hpm hTr hp hpo hok HBad HYes ht htk hne hall hsum hS cv0
            go_wp2_with (go_at_call 42; fail)
            refine hPr.mono ?_
            rintro e w4 ⟨rfl, hb4⟩
            have hbr4 := hbr.trans (hb4.mono hbr.size)
            clear hPr hb4 hbr c00
            go_wp2
            go_roundg k
            case measure => omega
            case rel => exact ⟨1, S ++ X, by omega, rfl, by go_num, hnx, hnz, hok2, hbr4⟩
          · have hz : ((0 : Int) < (i : Int)) := by omega
            have hnx : Hid (S ++ ⟨#[44]⟩ ++ txt (prP p) = txt (joinC ((L.map prP).take (i + 1)))) := hide (by
              rw [htk, join_snoc, if_neg (fun h => hi0 (hne.1 h)), hS.out, show (⟨#[44]⟩ : ByteArray) = txt [44] from rfl, txt_app, txt_app]
              simp)
            have hnz : (S ++ ⟨#[44]⟩ ++ txt (prP p)).size ≤ 100000 := by rw [hnx.out, txt_size]; exact hsum
            generalize txt (prP p) = X at *
            generalize p.length = m at *
            clear hvi hHi ha0 hHr hpm hTr hp hpo hok HBad HYes ht htk hne hall hsum hS
            go_wp2_with (go_at_call 42; fail)
            refine hPr.mono ?_
            rintro e w4 ⟨rfl, hb4⟩
            have hbr4 := hbr.trans (hb4.mono hbr.size)
            clear hPr hb4 hbr cv0
            go_wp2
            go_roundg k
            case measure => omega
            case rel => exact ⟨i + 1, S ++ ⟨#[44]⟩ ++ X, by omega, rfl, by go_num, hnx, hnz, hok2, hbr4⟩
        · rw [prV_no hpo] at hPr
          simp only at hPr
          have hRn := HBad.out p hpm hpo
          subst hRn
          generalize p.length = m at *
          clear hvi hHi ha0 hHr hpm hTr hp hpo hok HBad HYes HF HA HL H1 hS
          go_wp2_with (go_at_call 42; fail)
          refine hPr.mono ?_
          rintro e w4 ⟨rfl, hb4⟩
          have hbr4 := hbr.trans (hb4.mono hbr.size)
          clear hPr hb4 hbr cv0
          go_wp2
          go_ret2
          exact ⟨rfl, hbr4⟩

/-- What was printed reads as it was. -/
theorem print_back {L : List (List P2)} (h : (printN L).2 = 0) : nameV (printN L).1 = (some L, 0) ∧ (printN L).1.length ≤ 1000 := by
  by_cases h12 : 12 < L.length
  · rw [prN_long h12] at h; cases h
  · by_cases hall : ∀ p ∈ L, PartOk p
    · rw [prN_yes (by omega) hall] at h ⊢
      obtain ⟨h1, h2, h3⟩ := fit_ok (T := L.map prP) (t := (fitV (L.map prP)).1) (Prod.ext rfl h)
      rw [← h3]
      exact ⟨name_join ⟨by omega, hall⟩ h2, h2⟩
    · have : ∃ p ∈ L, ¬ PartOk p := by
        refine Classical.byContradiction fun hn => hall fun p hp => Classical.byContradiction fun hpo => hn ⟨p, hp, hpo⟩
      obtain ⟨p, hp, hpo⟩ := this
      rw [prN_bad hp hpo] at h; cases h

end Go.Proofs.YtkncdohghafeiaaGreatDoor
