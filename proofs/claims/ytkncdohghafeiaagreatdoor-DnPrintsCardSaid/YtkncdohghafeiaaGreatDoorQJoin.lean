/-
  Join of a part and a name, by the program and by the reference. By an AI agent.
-/
import Derived.Test.YtkncdohghafeiaaGreatDoorQConcat
namespace Go.Proofs.YtkncdohghafeiaaGreatDoor
open Go.RowKit
set_option linter.unusedVariables false

/-- A part ahead of a name. -/
noncomputable def joinV (l m : List UInt8) : List UInt8 × Int := match parseP l with
  | none => ([], 2)
  | some p => match partsV m with
    | (none, e) => ([], e)
    | (some T, _) => fitV (ptx p :: T)
theorem join_none {l m : List UInt8} (h : parseP l = none) : joinV l m = ([], 2) := by unfold joinV; rw [h]
theorem join_err {l m : List UInt8} {p : List P2} {e : Int} (h : parseP l = some p) (h' : partsV m = (none, e)) : joinV l m = ([], e) := by unfold joinV; rw [h]; simp only; rw [h']
theorem join_fit {l m : List UInt8} {p : List P2} {T : List (List UInt8)} (h : parseP l = some p) (h' : partsV m = (some T, 0)) : joinV l m = fitV (ptx p :: T) := by unfold joinV; rw [h]; simp only; rw [h']

theorem cons_sum {p : List P2} (hp : PartOk p) {T : List (List UInt8)} (h : TextsOk T) : (joinC (ptx p :: T)).length ≤ 100000000 := by
  have h1 := ptx_len hp
  have h2 := h.len
  cases T with
  | nil => simp only [joinC]; omega
  | cons a r => rw [joinC, List.length_append, List.length_cons]; omega

set_option maxRecDepth 100000 in
set_option maxHeartbeats 32000000 in
theorem pjoin_text (l m : List UInt8) (hl : l.length ≤ 1000000) (hm : m.length ≤ 1000000) (w : World) (hT : TM w) :
    Calls Tryz.prog 29 #[.string (txt l), .string (txt m)] w fun e w' => e = .returned (.tuple #[.string (txt (joinV l m).1), .int .i64 (joinV l m).2]) ∧ Below w.heap.size w w' := by
  have hPa := pparse_any (txt l) (by rw [txt_size]; exact hl) w hT
  rw [txt_toList] at hPa
  cases hp : parseP l with
  | none =>
    rw [join_none hp]
    rw [hp] at hPa
    generalize txt l = s at *
    generalize txt m = s2 at *
    clear hp hl hm
    go_enter Tryz.func29, Tryz.ntmps29
    go_wp2_with (go_at_call 34; fail)
    refine hPa.mono ?_
    rintro e w1 hpost
    obtain ⟨A, n, c, rfl, hn, _, hb⟩ := hpost.out
    clear hPa hpost
    go_wp2
    go_ret2
    exact ⟨rfl, hb⟩
  | some p =>
    have hok := parse_ok hp
    rw [hp] at hPa
    cases rkey m with
    | no y e1 e2 h' =>
      have hP' := fun w hT => pp_no hm h' w hT
      rw [join_err hp h']
      generalize txt l = s at *
      generalize txt m = s2 at *
      clear hp h' hl hm hok
      go_enter Tryz.func29, Tryz.ntmps29
      go_wp2_with (go_at_call 34; fail)
      refine hPa.mono ?_
      rintro e w1 hpost
      obtain ⟨A, n, c, rfl, hn, _, hb⟩ := hpost.out
      clear hPa hpost hn
      go_wp2_with (go_at_call 37; fail)
      refine (hP' _ (hT.below hb)).mono ?_
      rintro e w2 ⟨A2, c2, rfl, hb2⟩
      have hb3 := hb.trans (hb2.mono hb.size)
      clear hP' hb hb2
      go_wp2
      go_ret2
      exact ⟨rfl, hb3⟩
    | ok T ho h' =>
      have hP' := fun w hT => pp_yes hm h' w hT
      rw [join_fit hp h']
      have hn12 := ho.le
      obtain ⟨n2, hn2⟩ : ∃ n, T.length = n := ⟨_, rfl⟩
      have hJ := fun w A c hh hc => pjoin_any w A (1 + n2) c (ptx p :: T) hh hc (by omega) (cons_sum hok ho)
      have hNP := fun w A n c h hT => pnormpart_any p hok w A n c h hT
      rw [hn2] at hP' hn12
      obtain ⟨X0, hX0⟩ : ∃ X, txt (fitV (ptx p :: T)).1 = X := ⟨_, rfl⟩
      obtain ⟨y0, hy0⟩ : ∃ y, (fitV (ptx p :: T)).2 = y := ⟨_, rfl⟩
      rw [hX0, hy0] at hJ ⊢
      have HJ := hide hJ
      have hCs : strs ([ptx p] ++ T) = strs (ptx p :: T) := rfl
      have hone0 : strs [ptx p] = [.string (txt (ptx p))] := rfl
      have hCon := hide (fun w h A B c d hO hA hB => concat_any w h A B 1 c n2 d [ptx p] T hO hA hB (by omega) (by omega))
      generalize txt (ptx p) = X at *
      generalize txt l = s at *
      generalize txt m = s2 at *
      have HCs := hide hCs
      have HOne := hide hone0
      clear h' hp hl hm ho hok hn2 hX0 hy0 hJ hCs hone0
      go_enter Tryz.func29, Tryz.ntmps29
      go_wp2_with (go_at_call 34; fail)
      refine hPa.mono ?_
      rintro e w1 hpost
      obtain ⟨A, n, c, rfl, hn, hH, hb⟩ := hpost.out
      have HH1 := hide hH
      clear hPa hpost hH hn
      go_wp2_with (go_at_call 37; fail)
      refine (hP' _ (hT.below hb)).mono ?_
      rintro e w2 ⟨A2, c2, rfl, ht2, hb2⟩
      have hb3 := hb.trans (hb2.mono hb.size)
      have hNP2 := hNP w2 A n c ((HH1.out.below hb2).upto hb2.size) (hT.below hb3).tt
      have HH2 := hide ht2.has
      clear hP' hb hb2 ht2 HH1 hNP
      go_wp2_with (go_at_call 53; fail)
      refine hNP2.mono ?_
      rintro e w3 ⟨rfl, hb4⟩
      have hb5 := hb3.trans (hb4.mono hb3.size)
      have hlit := Has.own (litS w3 X)
      have hba := below1 w3 (.cells #[.string X] 9)
      have hA4 := ((HH2.out.below hb4).upto hb4.size).below hba
      obtain ⟨w4, hw4⟩ : ∃ w4, w3.alloc (.cells #[.string X] 9) = w4 := ⟨_, rfl⟩
      have hs4 : w3.heap.size + 1 = w4.heap.size := by rw [← hw4]; simp
      rw [hw4] at hlit hba hA4
      have hA5 := hA4.upto hba.size
      have hb6 := hb5.trans (hba.mono hb5.size)
      have hTwo := Two.new w4 (.slice (some ⟨w3.heap.size, 0, none⟩) 1 1) (.slice A2 n2 c2) 54
      have hbb := below1 w4 (.cells #[.slice (some ⟨w3.heap.size, 0, none⟩) 1 1, .slice A2 n2 c2] 54)
      have hb7 := hb6.trans (hbb.mono hb6.size)
      have hC := hCon.out _ _ _ _ _ _ hTwo (by rw [HOne.out]; exact (hlit.below hbb).upto hbb.size) ((hA5.below hbb).upto hbb.size)
      rw [← hs4, ← hw4] at hC
      rw [← hw4] at hb7
      clear hNP2 hb3 hb4 hb5 HH2 hlit hba hA4 hs4 hA5 hb6 hTwo hbb hCon hw4 HOne
      go_wp2_with (go_at_call 52; fail)
      refine hC.mono ?_
      rintro e w6 ⟨v, rfl, hown, hb8⟩
      obtain ⟨A6, c6, rfl, hc6, hH6⟩ := own_form hown
      rw [HCs.out] at hH6
      have hb9 := hb7.trans (hb8.mono hb7.size)
      have hJ6 := HJ.out w6 A6 c6 hH6 hc6
      clear hC hown hb7 hb8 hH6 HJ HCs
      go_wp2_with (go_at_call 38; fail)
      refine hJ6.mono ?_
      rintro e w7 ⟨rfl, hb10⟩
      have hb11 := hb9.trans (hb10.mono hb9.size)
      clear hJ6 hb9 hb10
      go_wp2
      go_ret2
      exact ⟨rfl, hb11⟩

set_option maxRecDepth 100000 in
set_option maxHeartbeats 32000000 in
theorem rjoin_text (l m : List UInt8) (hl : l.length ≤ 1000000) (hm : m.length ≤ 1000000) (w : World) (hT : TM w) :
    Calls Tryz.prog 30 #[.string (txt l), .string (txt m)] w fun e w' => e = .returned (.tuple #[.string (txt (joinV l m).1), .int .i64 (joinV l m).2]) ∧ Below w.heap.size w w' := by
  have hPa := rparse_part (txt l) (by rw [txt_size]; exact hl) w hT
  rw [txt_toList] at hPa
  cases hp : parseP l with
  | none =>
    rw [join_none hp]
    rw [hp] at hPa
    generalize txt l = s at *
    generalize txt m = s2 at *
    clear hp hl hm
    go_enter Tryz.func30, Tryz.ntmps30
    go_wp2_with (go_at_call 36; fail)
    refine hPa.mono ?_
    rintro e w1 hpost
    obtain ⟨A, n, c, rfl, hn, _, hb⟩ := hpost.out
    clear hPa hpost
    go_wp2
    go_ret2
    exact ⟨rfl, hb⟩
  | some p =>
    have hok := parse_ok hp
    rw [hp] at hPa
    cases rkey m with
    | no y e1 e2 h' =>
      have hP' := fun w hT => rp_no hm h' w hT
      rw [join_err hp h']
      generalize txt l = s at *
      generalize txt m = s2 at *
      clear hp h' hl hm hok
      go_enter Tryz.func30, Tryz.ntmps30
      go_wp2_with (go_at_call 36; fail)
      refine hPa.mono ?_
      rintro e w1 hpost
      obtain ⟨A, n, c, rfl, hn, _, hb⟩ := hpost.out
      clear hPa hpost hn
      go_wp2_with (go_at_call 39; fail)
      refine (hP' _ (hT.below hb)).mono ?_
      rintro e w2 ⟨A2, c2, rfl, hb2⟩
      have hb3 := hb.trans (hb2.mono hb.size)
      clear hP' hb hb2
      go_wp2
      go_ret2
      exact ⟨rfl, hb3⟩
    | ok T ho h' =>
      have hP' := fun w hT => rp_yes hm h' w hT
      rw [join_fit hp h']
      have hn12 := ho.le
      obtain ⟨mm, hmm⟩ := norm_of hok
      obtain ⟨n2, hn2⟩ : ∃ n, T.length = n := ⟨_, rfl⟩
      have hJ := fun w A c hh => fit_any w A (1 + n2) c (ptx p :: T) hh (by omega) (cons_sum hok ho)
      have hNP := fun w A n c h hT => rnorm_of p hok mm hmm w A n c h hT
      have hPr := fun w A c h hT => rprint_of p mm hmm w A c h hT
      rw [hn2] at hP' hn12
      obtain ⟨X0, hX0⟩ : ∃ X, txt (fitV (ptx p :: T)).1 = X := ⟨_, rfl⟩
      obtain ⟨y0, hy0⟩ : ∃ y, (fitV (ptx p :: T)).2 = y := ⟨_, rfl⟩
      rw [hX0, hy0] at hJ ⊢
      have HJ := hide hJ
      have hCs : Value.string (txt (ptx p)) :: strs T = strs (ptx p :: T) := rfl
      have h1t := strs_one T
      generalize txt (ptx p) = X at *
      generalize txt l = s at *
      generalize txt m = s2 at *
      have HCs := hide hCs
      have H1t := hide h1t
      have HPr := hide hPr
      have HNP := hide hNP
      clear h' hp hl hm ho hok hn2 hX0 hy0 hJ hCs h1t hPr hNP hmm
      go_enter Tryz.func30, Tryz.ntmps30
      go_wp2_with (go_at_call 36; fail)
      refine hPa.mono ?_
      rintro e w1 hpost
      obtain ⟨A, n, c, rfl, hn, hH, hb⟩ := hpost.out
      have HH1 := hide hH
      clear hPa hpost hH hn
      go_wp2_with (go_at_call 39; fail)
      refine (hP' _ (hT.below hb)).mono ?_
      rintro e w2 ⟨A2, c2, rfl, ht2, hb2⟩
      have hb3 := hb.trans (hb2.mono hb.size)
      have hNP2 := HNP.out w2 A n c ((HH1.out.below hb2).upto hb2.size) (hT.below hb3).tt
      have HH2 := hide ht2.has
      clear hP' hb hb2 ht2 HH1 HNP
      go_wp2_with (go_at_call 54; fail)
      refine hNP2.mono ?_
      rintro e w3 ⟨A3, c3, rfl, hH3, hb4⟩
      have hb5 := hb3.trans (hb4.mono hb3.size)
      have hPr3 := HPr.out w3 A3 c3 hH3 (hT.below hb5).tt
      have HH3 := hide ((HH2.out.below hb4).upto hb4.size)
      clear hNP2 hb3 hb4 hH3 HPr HH2
      go_wp2_with (go_at_call 42; fail)
      refine hPr3.mono ?_
      rintro e w4 ⟨rfl, hb6⟩
      have hb7 := hb5.trans (hb6.mono hb5.size)
      have hown := litS w4 X
      have hba := below1 w4 (.cells #[.string X] 9)
      have hA4 := ((HH3.out.below hb6).upto hb6.size).below hba
      have hsw := hb7.size
      have hb8 := hb7.trans (hba.mono hb7.size)
      have hs8 : w4.heap.size ≤ (w4.alloc (.cells #[.string X] 9)).heap.size := hba.size
      have h1t := H1t.out
      clear hPr3 hb5 hb6 HH3 hba hb7 H1t
      go_wp2_with (at_builtin; go_must (refine appE _ 54 9 _ 1 16 Tryz.underlying54 infoS rfl (by omega) (by omega) rfl (.tmp 39) (.tmp 40) rfl w4.heap.size _ 1 [.string X] rfl hown _ _ n2 _ (strs T) rfl hA4 h1t (by omega) hs8 ?_))
      intro v' w6 hor6 hb9 _
      obtain ⟨A6, c6, rfl, hc6, hH6⟩ := own_form hor6
      rw [HCs.out] at hH6
      have hb10 := hb8.trans (hb9.mono hsw)
      have hJ6 := HJ.out w6 A6 c6 hH6
      clear hown hA4 hb8 hs8 h1t hor6 hb9 hH6 HJ HCs
      go_wp2_with (go_at_call 55; fail)
      refine hJ6.mono ?_
      rintro e w7 ⟨rfl, hw7⟩
      obtain rfl := hw7.symm
      clear hJ6 hw7
      go_wp2
      go_ret2
      exact ⟨rfl, hb10⟩

end Go.Proofs.YtkncdohghafeiaaGreatDoor
