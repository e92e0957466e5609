/-
  The normal texts of a name's parts, by the program and by the reference. By an AI agent.
-/
import Derived.Test.YtmidjagjgipabaaGreatDoorQText
import Derived.Test.YtmidjagjgipabaaGreatDoorQRParse
namespace Go.Proofs.YtmidjagjgipabaaGreatDoor
open Go.RowKit
set_option linter.unusedVariables false

/-- A part's normal one and its text: what is known of them. -/
structure NormOf (p : List P2) (m : Nat) : Prop where
  len : (normP p).length = m
  le : m ≤ 3
  ok : PartOk (normP p)
  own : m ≤ 10000
  small : ∀ a ∈ normP p, a.1.length ≤ 1000000 ∧ a.2.length ≤ 1000000
theorem norm_of {p : List P2} (hp : PartOk p) : ∃ m, NormOf p m := by
  obtain ⟨hp2, _⟩ := normP_ok hp
  exact ⟨_, rfl, hp2.le, hp2, by have := hp2.le; omega, fun a ha => by have := (hp2.each a ha).small; omega⟩
theorem part_small {p : List P2} (hp : PartOk p) : ∀ a ∈ p, a.1.length ≤ 1000000 ∧ a.2.length ≤ 1000000 := fun a ha => by have := (hp.each a ha).small; omega

theorem pnorm_of (p : List P2) (hp : PartOk p) (m : Nat) (hm : NormOf p m) (w : World) (A : Option Addr) (n c : Nat) (h : Has w w.heap.size 2 A n (prs p)) (hT : TT w) :
    Calls Tryz.prog 38 #[.slice A n c] w fun e w' => ∃ A' c', e = .returned (.tuple #[.slice A' m c', .int .i64 0]) ∧ Has w' w'.heap.size 2 A' m (prs (normP p)) ∧ Below w.heap.size w w' := by
  have hnl := h.pairs_n
  have hNo := pnormal_any w A n c p h (by have := hp.le; omega) (fun a ha => (part_small hp a ha).2) hT
  rw [normV_yes hp] at hNo
  refine hNo.mono ?_
  rintro e w' hpost
  obtain ⟨v, rfl, hown, hb⟩ := hpost.out
  obtain ⟨A', c', rfl, _, hH⟩ := own_form hown
  simp only [Option.getD_some, hm.len] at hH
  exact ⟨A', c', by simp [hm.len], hH, hb⟩
theorem rnorm_of (p : List P2) (hp : PartOk p) (m : Nat) (hm : NormOf p m) (w : World) (A : Option Addr) (n c : Nat) (h : Has w w.heap.size 2 A n (prs p)) (hT : TT w) :
    Calls Tryz.prog 54 #[.slice A n c] w fun e w' => ∃ A' c', e = .returned (.tuple #[.slice A' m c', .int .i64 0]) ∧ Has w' w'.heap.size 2 A' m (prs (normP p)) ∧ Below w.heap.size w w' := by
  have hnl := h.pairs_n
  have hNo := rnormal_part w A n c p h (by have := hp.le; omega) (part_small hp) hT
  rw [normV_yes hp] at hNo
  refine hNo.mono ?_
  rintro e w' hpost
  obtain ⟨v, rfl, hown, hb⟩ := hpost.out
  obtain ⟨A', c', rfl, _, hH⟩ := own_form hown
  simp only [Option.getD_some, hm.len] at hH
  exact ⟨A', c', by simp [hm.len], hH, hb⟩
theorem pprint_of (p : List P2) (m : Nat) (hm : NormOf p m) (w : World) (A : Option Addr) (c : Nat) (h : Has w w.heap.size 2 A m (prs (normP p))) (hT : TT w) :
    Calls Tryz.prog 39 #[.slice A m c] w fun e w' => e = .returned (.tuple #[.string (txt (ptx p)), .int .i64 0]) ∧ Below w.heap.size w w' := by
  have := pprint_any w A m c (normP p) h hm.own (fun a ha => (hm.small a ha).2) hT
  rw [prV_yes hm.ok] at this
  exact this
theorem rprint_of (p : List P2) (m : Nat) (hm : NormOf p m) (w : World) (A : Option Addr) (c : Nat) (h : Has w w.heap.size 2 A m (prs (normP p))) (hT : TT w) :
    Calls Tryz.prog 55 #[.slice A m c] w fun e w' => e = .returned (.tuple #[.string (txt (ptx p)), .int .i64 0]) ∧ Below w.heap.size w w' := by
  have := rprint_any w A m c (normP p) h hm.own hm.small hT
  rw [prV_yes hm.ok] at this
  exact this

set_option maxRecDepth 100000 in
set_option maxHeartbeats 16000000 in
theorem pnormpart_any (p : List P2) (hp : PartOk p) (w : World) (A : Option Addr) (n c : Nat) (h : Has w w.heap.size 2 A n (prs p)) (hT : TT w) :
    Calls Tryz.prog 22 #[.slice A n c] w fun e w' => e = .returned (.string (txt (ptx p))) ∧ Below w.heap.size w w' := by
  obtain ⟨m, hm⟩ := norm_of hp
  have hNo := pnorm_of p hp m hm w A n c h hT
  have hPr := fun w A c h hT => pprint_of p m hm w A c h hT
  generalize txt (ptx p) = X at *
  have HM := hide hm
  clear hm h
  go_enter Tryz.func22, Tryz.ntmps22
  go_wp2_with (go_at_call 38; fail)
  refine hNo.mono ?_
  rintro e w1 ⟨A1, c1, rfl, hH1, hb1⟩
  clear hNo
  have hP1 := hPr w1 A1 c1 hH1 (hT.below hb1)
  clear hPr hH1
  go_wp2_with (go_at_call 39; fail)
  refine hP1.mono ?_
  rintro e w2 ⟨rfl, hb2⟩
  have hb := hb1.trans (hb2.mono hb1.size)
  clear hP1 hb1 hb2
  go_wp2
  go_ret
  exact ⟨rfl, hb⟩

theorem err_ne {e : Int} (h : e = 2 ∨ e = 4) : (e == 0) = false ∧ (e != 0) = true := by rcases h with rfl | rfl <;> exact ⟨rfl, rfl⟩

theorem ptx_len {p : List P2} (hp : PartOk p) : (ptx p).length ≤ 2103 := by
  obtain ⟨hp2, _⟩ := normP_ok hp
  have h1 := prP_len (normP p) hp2.each
  have h2 := hp2.le
  unfold ptx
  omega

/-- What is known of the parts' normal texts. -/
structure TextsOf (L : List (List P2)) (T : List (List UInt8)) (n : Nat) : Prop where
  map : L.map ptx = T
  len : T.length = n
  lenL : L.length = n
  le : n ≤ 12
  sum : (joinC T).length ≤ 100000
theorem texts_of' {L : List (List P2)} (ho : NameOk L) : ∃ T n, TextsOf L T n := by
  refine ⟨_, _, rfl, rfl, by rw [List.length_map], by rw [List.length_map]; exact ho.le, ?_⟩
  have := join_lens (L.map ptx) 2103 fun t ht => by obtain ⟨p, hp, rfl⟩ := List.mem_map.1 ht; exact ptx_len (ho.each p hp)
  have h2 := ho.le
  rw [List.length_map] at this
  omega
theorem TextsOf.at_ {L : List (List P2)} {T : List (List UInt8)} {n i : Nat} {p : List P2} (h : TextsOf L T n) (hp : L[i]? = some p) : strs (T.take (i + 1)) = strs (T.take i) ++ [.string (txt (ptx p))] := by
  have ht : T[i]? = some (ptx p) := by rw [← h.map, List.getElem?_map, hp]; rfl
  rw [List.take_add_one, ht, strs_append]
  rfl
theorem parts_fit {l : List UInt8} {L : List (List P2)} {T : List (List UInt8)} {n : Nat} (hn : nameV l = (some L, 0)) (h : TextsOf L T n) :
    ((fitV T).2 = 0 → partsV l = (some T, 0)) ∧ ((fitV T).2 ≠ 0 → partsV l = (none, (fitV T).2)) ∧ ((fitV T).2 = 0 ∨ (fitV T).2 = 4) := by
  have h1 : partsV l = if 1000 < (joinC T).length then (none, 4) else (some T, 0) := by unfold partsV; rw [hn]; simp only; rw [h.map]
  have h2 : T.length ≤ 12 := by rw [h.len]; exact h.le
  unfold fitV
  rw [h1]
  by_cases h3 : 1000 < (joinC T).length
  · rw [if_pos h3, if_pos (Or.inr h3)]
    exact ⟨fun h => (by cases h), fun _ => rfl, Or.inr rfl⟩
  · rw [if_neg h3, if_neg (by omega)]
    exact ⟨fun _ => rfl, fun h => absurd rfl h, Or.inl rfl⟩

set_option maxRecDepth 100000 in
set_option maxHeartbeats 32000000 in
theorem pparts_any (l : List UInt8) (hl : l.length ≤ 1000000) (w : World) (hT : TM w) :
    Calls Tryz.prog 11 #[.string (txt l)] w (TextsPost (partsV l) w) := by
  have hP := pname_any l hl w hT
  generalize hs : txt l = s at *
  clear hs
  cases hv : nameV l with
  | mk o er =>
    cases o with
    | none =>
      have hpv : partsV l = (none, er) := by unfold partsV; rw [hv]
      obtain ⟨e1, e2⟩ := err_ne (name_err hv)
      rw [hpv]
      rw [hv] at hP
      clear hv hpv hl
      go_enter Tryz.func11, Tryz.ntmps11
      go_wp2_with (go_at_call 21; fail)
      refine hP.mono ?_
      rintro e w1 hpost
      obtain ⟨A, c, vs, rfl, _, _, hb1⟩ := hpost.out
      have hba := hb1.trans ((below1 w1 (.cells #[.slice A 0 c] 42)).mono hb1.size)
      clear hpost hP hb1
      go_wp2
      go_ret2
      exact texts_no er w _ hba
    | some L =>
      obtain ⟨rfl, ho⟩ := name_ok hv
      obtain ⟨T, n, hTo⟩ := texts_of' ho
      obtain ⟨f1, f2, f3⟩ := parts_fit hv hTo
      obtain ⟨R, hR⟩ : ∃ R, partsV l = R := ⟨_, rfl⟩
      rw [hR] at f1 f2 ⊢
      rw [hv] at hP
      have HO := hide ho
      have HTo := hide hTo
      have F1 := hide f1
      have F2 := hide f2
      have F3 := hide f3
      have hn12 := hTo.le
      clear hv hl hR ho hTo f1 f2 f3
      go_enter Tryz.func11, Tryz.ntmps11
      go_wp2_with (go_at_call 21; fail)
      refine hP.mono ?_
      rintro e w1 hpost
      obtain ⟨A, c, vs, rfl, hA, hRw, hb1⟩ := hpost.out
      simp only [Option.getD_some, HTo.out.lenL] at hA hRw ⊢
      have hba := below1 w1 (.cells #[.slice A n c] 42)
      have hNx := Nx.new w1 (.slice A n c) 42
      have hA2 := hide ((hA.below hba).upto hba.size)
      have hRw2 := hide (hRw.grow hba)
      have hbw2 := hb1.trans (hba.mono hb1.size)
      have hTw2 := hT.below hbw2
      obtain ⟨c0, hlt, _⟩ := hNx
      clear hpost hP hA hRw hb1 hba hT
      obtain ⟨w2, hw2⟩ : ∃ w2, w1.alloc (.cells #[.slice A n c] 42) = w2 := ⟨_, rfl⟩
      rw [hw2] at c0 hlt hA2 hRw2 hbw2 hTw2
      obtain ⟨wm, hmake, hom, hbm⟩ := makeS w2 n (by omega)
      have hbm0 := hbm
      have cm0 := (hbm.cell (p := ⟨w1.heap.size, 0, none⟩) hlt).trans c0
      have horm := hom
      have HB1 := hide hbm
      clear hom hbm hbm0
      go_wp2
      go_loopg [6, 26] n (fun k s6 s26 wx => ∃ i : Nat, i + k = n ∧ s26 = .int .i64 (i : Int) ∧ wx.ownsRow w2.heap.size 9 1 s6 i (strs (T.take i)) ∧ Hid (Below w2.heap.size w2 wx))
      case atStart => exact ⟨0, by omega, rfl, horm, HB1⟩
      case round =>
        obtain ⟨i, hig, rfl, hor, hB1⟩ := hrel
        clear horm hmake HB1 cm0 c0 hlt hw2
        have hbr := hbw2.trans (hB1.out.mono hbw2.size)
        cases gk with
        | zero =>
          obtain rfl : i = n := by omega
          have hiz : ¬ ((i : Int) < (i : Int)) := by omega
          rw [List.take_of_length_le (by rw [HTo.out.len]; exact Nat.le_refl _)] at hor
          obtain ⟨A5, c5, rfl, hc5, hH5⟩ := own_form hor
          have hJ := pjoin_any wr A5 i c5 T hH5 hc5 (by omega) (by have := HTo.out.sum; omega)
          obtain ⟨X, hX⟩ : ∃ X, txt (fitV T).1 = X := ⟨_, rfl⟩
          obtain ⟨y, hy⟩ : ∃ y, (fitV T).2 = y := ⟨_, rfl⟩
          rw [hX, hy] at hJ
          rw [hy] at F1 F2 F3
          have hor2 := own_base hor hbw2.size
          clear hX hy hH5 hA2 hRw2 HO hor
          go_wp2_with (go_at_call 12; fail)
          refine hJ.mono ?_
          rintro e w3 ⟨rfl, hb3⟩
          have hbr3 := hbr.trans (hb3.mono hbr.size)
          have hor3 := own_below hor2 hb3
          clear hJ hb3 hor2 hbr
          rcases F3.out with rfl | rfl
          · have hRy : Hid (R = (some T, 0)) := hide (F1.out rfl)
            have Hor := hide hor3
            clear F1 F2 F3 hor3
            go_wp2
            go_ret2
            exact hRy.out ▸ ⟨A5, i, c5, rfl, HTo.out.len.symm, Hor.out, hbr3⟩
          · have hRn : Hid (R = (none, 4)) := hide (F2.out (by omega))
            clear F1 F2 F3 hor3
            go_wp2
            go_ret2
            exact hRn.out ▸ texts_no 4 w _ hbr3
        | succ k =>
          have hi : i < n := by omega
          have hiz : (i : Int) < (n : Int) := by omega
          obtain ⟨p, hp⟩ : ∃ p, L[i]? = some p := ⟨_, List.getElem?_eq_getElem (by rw [HTo.out.lenL]; exact hi)⟩
          obtain ⟨Ai, ci, hvi, hHi⟩ := hRw2.out.each i p hp
          obtain ⟨g, o, rfl, hg, hcell⟩ := hA2.out.lies (by have := (List.getElem?_eq_some_iff.1 hvi).1; omega)
          have cv0 := (hB1.out.cell (p := ⟨g, o + i, none⟩) hg).trans (hcell i _ hvi)
          have hHr := (hHi.below hB1.out).upto hB1.out.size
          have hok := HO.out.each p (List.mem_of_getElem? hp)
          have hNP := pnormpart_any p hok wr Ai p.length ci hHr (hT := (hTw2.below hB1.out).tt)
          have htk := hide (HTo.out.at_ hp)
          generalize txt (ptx p) = X at *
          generalize p.length = m at *
          clear hp hvi hHi hcell hHr hok
          go_wp2_with (go_at_call 22; fail)
          refine hNP.mono ?_
          rintro e w4 ⟨rfl, hb4⟩
          have hor4 := own_below hor hb4
          have hB4 := hide (hB1.out.trans (hb4.mono hB1.out.size))
          clear hNP hor hb4 hbr hB1 cv0
          have hone := litS w4 X
          have hH := Has.own hone
          have hor5 := hor4.alloc (.cells #[.string X] 9)
          have hB5 := hide (hB4.out.alloc hB4.out.size (.cells #[.string X] 9))
          have hs5 := hB5.out.size
          have h1c : ∀ u ∈ [Value.string X], u.oneCell' = true := by simp [Value.oneCell']
          clear hone hor4 hB4
          go_wp2_with (at_builtin; go_must (refine appE _ 31 9 _ 1 16 Tryz.underlying31 infoS rfl (by omega) (by omega) rfl (.tmp 30) (.tmp 33) rfl w2.heap.size _ i (strs (T.take i)) rfl hor5 _ _ 1 1 [.string X] rfl hH h1c (by omega) hs5 ?_))
          intro v' w6 hor6 hb6 _
          have hB6 := hide (hB5.out.trans hb6)
          rw [← htk.out] at hor6
          clear hor5 hB5 hs5 hH hb6 h1c htk
          go_wp2
          go_roundg k
          case measure => omega
          case rel => exact ⟨i + 1, by omega, by go_num, hor6, hB6⟩

set_option maxRecDepth 100000 in
set_option maxHeartbeats 32000000 in
theorem rparts_any (l : List UInt8) (hl : l.length ≤ 1000000) (w : World) (hT : TM w) :
    Calls Tryz.prog 32 #[.string (txt l)] w (TextsPost (partsV l) w) := by
  have hP := rname_any l hl w hT
  generalize hs : txt l = s at *
  clear hs
  cases hv : nameV l with
  | mk o er =>
    cases o with
    | none =>
      have hpv : partsV l = (none, er) := by unfold partsV; rw [hv]
      obtain ⟨e1, e2⟩ := err_ne (name_err hv)
      rw [hpv]
      rw [hv] at hP
      clear hv hpv hl
      go_enter Tryz.func32, Tryz.ntmps32
      go_wp2_with (go_at_call 53; fail)
      refine hP.mono ?_
      rintro e w1 hpost
      obtain ⟨A, c, vs, rfl, _, _, hb1⟩ := hpost.out
      clear hpost hP
      go_wp2
      go_ret2
      exact texts_no er w _ hb1
    | some L =>
      obtain ⟨rfl, ho⟩ := name_ok hv
      obtain ⟨T, n, hTo⟩ := texts_of' ho
      obtain ⟨f1, f2, f3⟩ := parts_fit hv hTo
      obtain ⟨R, hR⟩ : ∃ R, partsV l = R := ⟨_, rfl⟩
      have hlong : 1000 < (joinC T).length → R = (none, 4) := fun h => by
        rw [← hR]; unfold partsV; rw [hv]; simp only; rw [hTo.map, if_pos h]
      have hfit : ¬ 1000 < (joinC T).length → R = (some T, 0) := fun h => by
        rw [← hR]; unfold partsV; rw [hv]; simp only; rw [hTo.map, if_neg h]
      rw [hR]
      rw [hv] at hP
      have HO := hide ho
      have HTo := hide hTo
      have F1 := hide hlong
      have F2 := hide hfit
      have hn12 := hTo.le
      clear hv hl hR ho hTo f1 f2 f3 hlong hfit
      go_enter Tryz.func32, Tryz.ntmps32
      go_wp2_with (go_at_call 53; fail)
      refine hP.mono ?_
      rintro e w2 hpost
      obtain ⟨A, c, vs, rfl, hA, hRw, hbw2⟩ := hpost.out
      simp only [Option.getD_some, HTo.out.lenL] at hA hRw ⊢
      have hA2 := hide hA
      have hRw2 := hide hRw
      have hTw2 := hT.below hbw2
      clear hpost hP hA hRw hT
      go_wp2
      go_loopg [6, 22] n (fun k s6 s22 wx => ∃ i : Nat, i + k = n ∧ s22 = .int .i64 (i : Int) ∧ wx.ownsRow w2.heap.size 9 1 s6 i (strs (T.take i)) ∧ Hid (Below w2.heap.size w2 wx))
      case atStart => exact ⟨0, by omega, rfl, nil_own _ _ _ _, hide (Below.refl _ _)⟩
      case round =>
        obtain ⟨i, hig, rfl, hor, hB1⟩ := hrel
        have hbr := hbw2.trans (hB1.out.mono hbw2.size)
        cases gk with
        | zero =>
          obtain rfl : i = n := by omega
          have hiz : ¬ ((i : Int) < (i : Int)) := by omega
          rw [List.take_of_length_le (by rw [HTo.out.len]; exact Nat.le_refl _)] at hor
          obtain ⟨A5, c5, rfl, hc5, hH5⟩ := own_form hor
          have hJ := joined_any wr A5 i c5 T hH5 (by omega) (by have := HTo.out.sum; omega)
          have hsz : (txt (joinC T)).size = (joinC T).length := txt_size _
          have hor2 := own_base hor hbw2.size
          have Hor := hide hor2
          by_cases h1000 : 1000 < (joinC T).length
          · have hRn : Hid (R = (none, 4)) := hide (F1.out h1000)
            have z1 : ((1000 : Int) < ((txt (joinC T)).size : Int)) := by omega
            generalize txt (joinC T) = X at *
            clear hH5 hA2 hRw2 HO hor F1 F2 hsz h1000 hor2
            go_wp2_with (go_at_call 33; fail)
            refine hJ.mono ?_
            rintro e w3 ⟨rfl, hw3⟩
            obtain rfl := hw3.symm
            clear hJ hw3
            go_wp2
            go_ret2
            exact hRn.out ▸ texts_no 4 w _ hbr
          · have hRy : Hid (R = (some T, 0)) := hide (F2.out h1000)
            have z1 : ¬ ((1000 : Int) < ((txt (joinC T)).size : Int)) := by omega
            generalize txt (joinC T) = X at *
            clear hH5 hA2 hRw2 HO hor F1 F2 hsz h1000 hor2
            go_wp2_with (go_at_call 33; fail)
            refine hJ.mono ?_
            rintro e w3 ⟨rfl, hw3⟩
            obtain rfl := hw3.symm
            clear hJ hw3
            go_wp2
            go_ret2
            exact hRy.out ▸ ⟨A5, i, c5, rfl, HTo.out.len.symm, Hor.out, hbr⟩
        | succ k =>
          have hi : i < n := by omega
          have hiz : (i : Int) < (n : Int) := by omega
          obtain ⟨p, hp⟩ : ∃ p, L[i]? = some p := ⟨_, List.getElem?_eq_getElem (by rw [HTo.out.lenL]; exact hi)⟩
          obtain ⟨Ai, ci, hvi, hHi⟩ := hRw2.out.each i p hp
          obtain ⟨g, o, rfl, hg, hcell⟩ := hA2.out.lies (by have := (List.getElem?_eq_some_iff.1 hvi).1; omega)
          have cv0 := (hB1.out.cell (p := ⟨g, o + i, none⟩) hg).trans (hcell i _ hvi)
          have hHr := (hHi.below hB1.out).upto hB1.out.size
          have hok := HO.out.each p (List.mem_of_getElem? hp)
          obtain ⟨m, hm⟩ := norm_of hok
          have hTr := (hTw2.below hB1.out).tt
          have hNP := rnorm_of p hok m hm wr Ai p.length ci hHr hTr
          have hPr := hide (fun w A c h hT => rprint_of p m hm w A c h hT)
          have htk := hide (HTo.out.at_ hp)
          generalize txt (ptx p) = X at *
          generalize p.length = mp at *
          clear hp hvi hHi hcell hHr hok
          have HM := hide hm
          clear hm
          go_wp2_with (go_at_call 54; fail)
          refine hNP.mono ?_
          rintro e w3 ⟨A3, c3, rfl, hH3, hb3⟩
          have hP3 := hPr.out w3 A3 c3 hH3 (hTr.below hb3)
          have hor3 := own_below hor hb3
          have hB3 := hide (hB1.out.trans (hb3.mono hB1.out.size))
          clear hNP hor hb3 hbr hB1 cv0 hH3 hPr
          go_wp2_with (go_at_call 55; fail)
          refine hP3.mono ?_
          rintro e w4 ⟨rfl, hb4⟩
          have hor4 := own_below hor3 hb4
          have hB4 := hide (hB3.out.trans (hb4.mono hB3.out.size))
          clear hP3 hor3 hb4 hB3 hTr
          have hone := litS w4 X
          have hH := Has.own hone
          have hor5 := hor4.alloc (.cells #[.string X] 9)
          have hB5 := hide (hB4.out.alloc hB4.out.size (.cells #[.string X] 9))
          have hs5 := hB5.out.size
          have h1c : ∀ u ∈ [Value.string X], u.oneCell' = true := by simp [Value.oneCell']
          clear hone hor4 hB4
          go_wp2_with (at_builtin; go_must (refine appE _ 31 9 _ 1 16 Tryz.underlying31 infoS rfl (by omega) (by omega) rfl (.tmp 38) (.tmp 40) rfl w2.heap.size _ i (strs (T.take i)) rfl hor5 _ _ 1 1 [.string X] rfl hH h1c (by omega) hs5 ?_))
          intro v' w6 hor6 hb6 _
          have hB6 := hide (hB5.out.trans hb6)
          rw [← htk.out] at hor6
          clear hor5 hB5 hs5 hH hb6 h1c htk
          go_wp2
          go_roundg k
          case measure => omega
          case rel => exact ⟨i + 1, by omega, by go_num, hor6, hB6⟩

end Go.Proofs.YtmidjagjgipabaaGreatDoor
