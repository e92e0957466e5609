/-
  'FrameNil': a nil cutter takes nothing; pieces that came are not kept, answers are new memory.
-/
import Derived.Test.YtgdaangbgmmgmaaFrameAwake
namespace Go.Proofs.Ytgdaangbgmmgmaa.Frame
open Go.RowKit Go.Proofs.Ytgdaangbgmmgmaa.Ber

theorem fieldOf_two (t : UInt8) (l : List UInt8) (hl : l.length ≤ 2147483647) : 2 ≤ (fieldOf t l).length ∧ (fieldOf t l).length ≤ l.length + 6 := by
  have h1 := fieldOf_length t l
  have h2 := lenOf_le (l.length : Int)
  have h3 : 1 ≤ (lenOf (l.length : Int)).length := by
    unfold lenOf
    rw [if_neg (by omega)]
    split <;> simp
  omega

theorem fieldOf_cons (t : UInt8) (l : List UInt8) : fieldOf t l = t :: (fieldOf t l).drop 1 := rfl

theorem feed_rest (M : Nat) (l : List UInt8) (hl : l.length ≤ 2147483647) (hM : (fieldOf 48 l).length ≤ M) : feedOf M ⟨1, [48], 0, 0⟩ ((fieldOf 48 l).drop 1) = ([fieldOf 48 l], 0, fresh) := by
  have h := run_field M l [] hl hM
  rw [List.append_nil, fieldOf_cons, tag_good] at h
  unfold feedOf
  rw [if_neg (by simp), h]
  rfl

set_option maxRecDepth 100000 in
set_option maxHeartbeats 3200000 in
theorem nil_great (w : World) (A : Option Addr) (n c : Nat) (hn : 1000 < n) :
    Calls Try.prog 7 #[.slice A n c] w fun e w' => e = .returned (.bool true) ∧ Below w.heap.size w w' := by
  have h1 : (1000 : Int) < (n : Int) := by omega
  go_enter Try.func7, Try.ntmps7
  go_wp2_with fail
  refine (awake_any _).mono ?_
  rintro e w1 ⟨rfl, hb1⟩
  go_wp2_with fail
  refine (awake_any _).mono ?_
  rintro e w2 ⟨rfl, hb2⟩
  go_wp2
  go_ret
  exact ⟨rfl, hb1.trans (hb2.mono hb1.size)⟩

set_option maxRecDepth 100000 in
set_option maxHeartbeats 3200000 in
theorem nil_small (w : World) (A : Option Addr) (n c : Nat) (l : List UInt8) (h : Has w w.heap.size 1 A n (bys l)) (hc : n ≤ c) (hm : c ≤ maxLen) (hn : n ≤ 1000) :
    Calls Try.prog 7 #[.slice A n c] w fun e w' => e = .returned (.bool true) ∧ Below w.heap.size w w' := by
  have h1 : ¬ (1000 : Int) < (n : Int) := by omega
  have hln : l.length = n := by simpa [bys] using h.1
  have h2F := fieldOf_two 48 l (by omega)
  have hrest := feed_rest 16384 l (by omega) (by omega)
  obtain ⟨F, hF⟩ : ∃ F, F = fieldOf 48 l := ⟨_, rfl⟩
  have hF1 : F = 48 :: F.drop 1 := by rw [hF]; rfl
  have HFL := hide fun (W : World) (hb : Below w.heap.size w W) => rfield_any 48 W W.heap.size A n c l ((h.below hb).upto hb.size) (Nat.le_refl _) (by omega)
  rw [← hF] at h2F hrest HFL
  have HR := hide hrest
  have HF1 := hide hF1
  clear hF hrest hF1 h
  go_enter Try.func7, Try.ntmps7
  go_wp2_with fail
  refine (awake_any _).mono ?_
  rintro e w1 ⟨rfl, hb1⟩
  go_wp2_with fail
  refine (feed_nil _ _ _ _).mono ?_
  rintro e wq ⟨rfl, rfl⟩
  go_wp2_with fail
  refine (HFL.out wq hb1).mono ?_
  rintro e wf ⟨vF, rfl, hoF, hbF⟩
  obtain ⟨AF, cF, rfl, hcF, hmF, hHF0⟩ := own_form' hoF
  have hbwf := hb1.trans (hbF.mono hb1.size)
  have hswf := hbwf.size
  clear hoF hb1 hbF HFL
  go_wp2_with fail
  refine (new_any 16384 _).mono ?_
  rintro e wn ⟨rfl, hcn, hbn⟩
  have hHFn := hHF0.below hbn
  have hbwn := hbwf.trans (hbn.mono hswf)
  have hswn := hbwn.size
  have hgn := hcn.lt
  have hgw : w.heap.size ≤ wf.heap.size := hswf
  obtain ⟨g, hg⟩ : ∃ g, g = wf.heap.size := ⟨_, rfl⟩
  rw [← hg] at hcn hgn hgw hHFn hbn ⊢
  have ho0 := none8 wn
  have hb0 : Below wn.heap.size wn (wn.alloc (.cells #[] 5)) := (Below.refl _ _).alloc (Nat.le_refl _) _
  have hs0 := hb0.size
  have hH1 := (hHFn.first (k := 1) (by omega)).keep (w' := wn.alloc (.cells #[] 5)) (fun p hp => World.cell?_alloc_lt _ _ _ (by omega))
  have hF48 : (bys F).take (1 * 1) = bys [48] := by rw [HF1.out]; rfl
  rw [hF48] at hH1
  have HHF := hide hHFn
  have HCN := hide hcn
  have HBWN := hide hbwn
  have hcF1 : 1 ≤ cF := by omega
  have hgws : wf.heap.size = g := hg.symm
  have HGS := hide hgws
  clear hbwf hbn hHF0 hHFn hcn hbwn hF48 hg hgws
  try rw [HGS.out]
  go_wp2_with (at_builtin; go_must (refine app8 _ rfl (.tmp 28) (.tmp 30) rfl wn.heap.size _ 0 [] rfl ho0 _ _ 1 cF [48] rfl hH1 (by omega) hs0 ?_))
  intro v2 w2 ho2 hb2 _
  have hb02 := hb0.trans hb2
  have hc2 : Cutter w2 g 16384 fresh := (cutter_new HCN.out).below hb02 hgn
  obtain ⟨b1, c1, rfl, hb1g, hb1l⟩ := ho2.form (by omega)
  obtain ⟨A1', c1', hv1, hc11, hc1m, hH2⟩ := own_form' ho2
  injection hv1 with hA1 _ hc1e
  subst hA1 hc1e
  have hs02 := hb02.size
  have hf1 := feed_any w2 g 16384 16384 fresh [48] (.inl rfl) rfl (Nat.le_refl _) hc2 (some ⟨b1, 0, none⟩) 1 c1 (Off.own ho2 hgn) hc11 hc1m (fun _ => by simp)
  rw [show feedOf 16384 fresh [48] = ([], 0, ⟨1, [48], 0, 0⟩) from rfl] at hf1
  unfold FeedSays at hf1
  have HF1' := hide hf1
  have hHF2 := HHF.out.below (hb02.mono (Nat.le_of_lt hgn))
  have hBw2 := HBWN.out.trans (hb02.mono hswn)
  have HO2 := hide ho2
  clear hf1 hc2 ho0 hb0 hs0 hH1 ho2 hb2 hb02 hH2 HCN HHF HBWN
  go_wp2_with fail
  refine HF1'.out.mono ?_
  rintro e w3 ⟨v3, rfl, _, hc3, hn3⟩
  have hg2 : g ≤ w2.heap.size := by omega
  have hHF3 := hHF2.below (hn3.below (Nat.le_refl g) hg2)
  have hBw3 := hBw2.trans (hn3.below (B := w.heap.size) hgw (by omega))
  have ho3 := own_near HO2.out hn3 hgn
  have hcell3 := ho3.cells (g := b1) rfl 0 _ rfl
  rw [show (⟨b1, 0, none⟩ : Addr).add 0 = ⟨b1, 0, none⟩ by simp [Addr.add]] at hcell3
  have hfro3 : w3.frozen? ⟨b1, 0, none⟩ = false := by
    rcases ho3.2 with ⟨_, h0⟩ | ⟨g', cap, cur, hv, _, hh, _⟩
    · omega
    · injection hv with hA _ _
      injection hA with hA
      injection hA with hA _ _
      subst hA
      exact frozen_of_row w3 b1 0 _ _ hh
  have hBs : Below (g + 1) w3 (w3.setCell ⟨b1, 0, none⟩ (.int .u8 9)) := (Below.refl _ _).setCell (p := ⟨b1, 0, none⟩) (by show g + 1 ≤ b1; omega) _
  have hc4 := hc3.below hBs (by omega)
  have hHF4 := hHF3.below (hBs.mono (by omega))
  have hBw4 := hBw3.trans (hBs.mono (by omega))
  have hoff4 : Off (w3.setCell ⟨b1, 0, none⟩ (.int .u8 9)) g (if cF = 1 then AF else AF.map (·.add 1)) (F.length - 1) (bys (F.drop 1)) := by
    rw [← bys_drop]
    exact (Off.of hHF4 (Nat.le_refl g)).drop (by omega) hcF
  rw [if_neg (by omega)] at hoff4
  have hf2 := feed_any _ g 16384 16384 ⟨1, [48], 0, 0⟩ (F.drop 1) (.inr (.inl rfl)) rfl (Nat.le_refl _) hc4 _ (F.length - 1) (cF - 1) hoff4 (by omega) (by omega) (fun _ => by rw [List.length_drop]; omega)
  rw [HR.out] at hf2
  unfold FeedSays at hf2
  have HF2' := hide hf2
  have HHF4 := hide hHF4
  have HBW4 := hide hBw4
  have hncF : ¬ cF = 1 := by omega
  have hg3 : g ≤ w3.heap.size := Nat.le_trans hg2 hn3.size
  clear hf2 hoff4 hc4 hc3 hHF2 hHF3 hHF4 hBw2 hBw3 hBw4 hBs hn3 ho3 HF1'
  go_wp2_with fail
  refine HF2'.out.mono ?_
  rintro e w5 ⟨v5, rfl, hm5, _, hn5⟩
  have hg4 : g ≤ (w3.setCell ⟨b1, 0, none⟩ (.int .u8 9)).heap.size := by simpa using hg3
  have hHF5 := (HHF4.out.below (hn5.below (Nat.le_refl g) hg4)).upto (Nat.le_trans hg4 hn5.size)
  have hBw5 := HBW4.out.trans (hn5.below (B := w.heap.size) hgw (by omega))
  obtain ⟨gv, cv, A5, c5, rfl, hcv1, hcvm, _, hcell, hH5⟩ := hm5.one
  have hgv : gv < w5.heap.size := World.block_lt_of_cell? w5 ⟨gv, 0, none⟩ hcell
  have HB5 := hide hBw5
  have hHF := hHF5
  clear hm5 hn5 HF2' HHF4 HBW4 hHF5 hBw5 hcell3 hfro3
  go_wp2_with fail
  refine grow_begin_at w5.heap.size (by kernel_rfl) ?_
  refine grow_take 0 (some 44) (v := ?vd0) rfl rfl (by kernel_rfl) (by kernel_rfl) (by kernel_rfl) (fun _ _ _ h => h) (by rfl) (fun W hW => ?yd0) ?_
  case yd0 =>
    go_simp <;> with_reducible rfl
  simp only [Act.put, List.setIfInBounds_toArray, List.set_cons_zero, List.set_cons_succ]
  refine grow_take 1 (some 45) (v := ?vd1) rfl rfl (by kernel_rfl) (by kernel_rfl) (by kernel_rfl) (fun _ _ _ h => h) (by rfl) (fun W hW => ?yd1) ?_
  case yd1 =>
    go_simp <;> with_reducible rfl
  simp only [Act.put, List.setIfInBounds_toArray, List.set_cons_zero, List.set_cons_succ]
  refine grow_take 2 (some 46) (v := ?vd2) rfl rfl (by kernel_rfl) (by kernel_rfl) (by kernel_rfl) (fun _ _ _ h => h) (by rfl) (fun W hW => ?yd2) ?_
  case yd2 =>
    go_simp <;> with_reducible rfl
  simp only [Act.put, List.setIfInBounds_toArray, List.set_cons_zero, List.set_cons_succ]
  refine grow_take 3 (some 47) (v := ?vd3) rfl rfl (by kernel_rfl) (by kernel_rfl) (by kernel_rfl) (fun _ _ _ h => h) (by rfl) (fun W hW => ?yd3) ?_
  case yd3 =>
    go_simp <;> with_reducible rfl
  simp only [Act.put, List.setIfInBounds_toArray, List.set_cons_zero, List.set_cons_succ]
  refine grow_only 4 rfl (by kernel_rfl) (fun K hK => ?_)
  go_simp
  refine (waiting_nil _).mono ?_
  rintro e w6 ⟨rfl, rfl⟩
  refine hK.out _ _ (Below.refl _ _) ?_
  clear hK K
  try simp only [Act.put, List.setIfInBounds_toArray, List.set_cons_zero, List.set_cons_succ]
  refine grow_take 5 (some 49) (v := ?vd5) rfl rfl (by kernel_rfl) (by kernel_rfl) (by kernel_rfl) (fun _ _ _ h => h) (by rfl) (fun W hW => ?yd5) ?_
  case yd5 =>
    go_simp <;> with_reducible rfl
  simp only [Act.put, List.setIfInBounds_toArray, List.set_cons_zero, List.set_cons_succ]
  refine grow_take 6 (some 50) (v := ?vd6) rfl rfl (by kernel_rfl) (by kernel_rfl) (by kernel_rfl) (fun _ _ _ h => h) (by rfl) (fun W hW => ?yd6) ?_
  case yd6 =>
    go_simp <;> with_reducible rfl
  simp only [Act.put, List.setIfInBounds_toArray, List.set_cons_zero, List.set_cons_succ]
  refine grow_take 7 (some 51) (v := ?vd7) rfl rfl (by kernel_rfl) (by kernel_rfl) (by kernel_rfl) (fun _ _ _ h => h) (by rfl) (fun W hW => ?yd7) ?_
  case yd7 =>
    go_simp <;> with_reducible rfl
  simp only [Act.put, List.setIfInBounds_toArray, List.set_cons_zero, List.set_cons_succ]
  refine grow_take 8 (some 52) (v := ?vd8) rfl rfl (by kernel_rfl) (by kernel_rfl) (by kernel_rfl) (fun _ _ _ h => h) (by rfl) (fun W hW => ?yd8) ?_
  case yd8 =>
    go_simp <;> with_reducible rfl
  simp only [Act.put, List.setIfInBounds_toArray, List.set_cons_zero, List.set_cons_succ]
  refine grow_only 9 rfl (by kernel_rfl) (fun K hK => ?_)
  go_simp
  refine (over_nil _).mono ?_
  rintro e w6 ⟨rfl, rfl⟩
  refine hK.out _ _ (Below.refl _ _) ?_
  clear hK K
  try simp only [Act.put, List.setIfInBounds_toArray, List.set_cons_zero, List.set_cons_succ]
  refine grow_take 10 (some 54) (v := ?vd10) rfl rfl (by kernel_rfl) (by kernel_rfl) (by kernel_rfl) (fun _ _ _ h => h) (by rfl) (fun W hW => ?yd10) ?_
  case yd10 =>
    go_simp <;> with_reducible rfl
  simp only [Act.put, List.setIfInBounds_toArray, List.set_cons_zero, List.set_cons_succ]
  refine grow_take 11 (some 55) (v := ?vd11) rfl rfl (by kernel_rfl) (by kernel_rfl) (by kernel_rfl) (fun _ _ _ h => h) (by rfl) (fun W hW => ?yd11) ?_
  case yd11 =>
    go_simp <;> with_reducible rfl
  simp only [Act.put, List.setIfInBounds_toArray, List.set_cons_zero, List.set_cons_succ]
  refine grow_take 12 (some 56) (v := ?vd12) rfl rfl (by kernel_rfl) (by kernel_rfl) (by kernel_rfl) (fun _ _ _ h => h) (by rfl) (fun W hW => ?yd12) ?_
  case yd12 =>
    go_simp <;> with_reducible rfl
  simp only [Act.put, List.setIfInBounds_toArray, List.set_cons_zero, List.set_cons_succ]
  refine grow_take 13 (some 57) (v := ?vd13) rfl rfl (by kernel_rfl) (by kernel_rfl) (by kernel_rfl) (fun _ _ _ h => h) (by rfl) (fun W hW => ?yd13) ?_
  case yd13 =>
    go_simp <;> with_reducible rfl
  simp only [Act.put, List.setIfInBounds_toArray, List.set_cons_zero, List.set_cons_succ]
  refine grow_take 14 (some 58) (v := ?vd14) rfl rfl (by kernel_rfl) (by kernel_rfl) (by kernel_rfl) (fun _ _ _ h => h) (by rfl) (fun W hW => ?yd14) ?_
  case yd14 =>
    go_simp <;> with_reducible rfl
  simp only [Act.put, List.setIfInBounds_toArray, List.set_cons_zero, List.set_cons_succ]
  refine grow_take 15 (some 59) (v := ?vd15) rfl rfl (by kernel_rfl) (by kernel_rfl) (by kernel_rfl) (fun _ _ _ h => h) (by rfl) (fun W hW => ?yd15) ?_
  case yd15 =>
    go_simp <;> with_reducible rfl
  simp only [Act.put, List.setIfInBounds_toArray, List.set_cons_zero, List.set_cons_succ]
  refine grow_take 16 (some 60) (v := ?vd16) rfl rfl (by kernel_rfl) (by kernel_rfl) (by kernel_rfl) (fun _ _ _ h => h) (by rfl) (fun W hW => ?yd16) ?_
  case yd16 =>
    go_simp <;> with_reducible rfl
  simp only [Act.put, List.setIfInBounds_toArray, List.set_cons_zero, List.set_cons_succ]
  refine grow_take 17 (some 61) (v := ?vd17) rfl rfl (by kernel_rfl) (by kernel_rfl) (by kernel_rfl) (fun _ _ _ h => h) (by rfl) (fun W hW => ?yd17) ?_
  case yd17 =>
    go_simp <;> with_reducible rfl
  simp only [Act.put, List.setIfInBounds_toArray, List.set_cons_zero, List.set_cons_succ]
  refine grow_take 18 (some 62) (v := ?vd18) rfl rfl (by kernel_rfl) (by kernel_rfl) (by kernel_rfl) (fun _ _ _ h => h) (by rfl) (fun W hW => ?yd18) ?_
  case yd18 =>
    go_simp <;> with_reducible rfl
  simp only [Act.put, List.setIfInBounds_toArray, List.set_cons_zero, List.set_cons_succ]
  refine grow_take 19 (some 63) (v := ?vd19) rfl rfl (by kernel_rfl) (by kernel_rfl) (by kernel_rfl) (fun _ _ _ h => h) (by rfl) (fun W hW => ?yd19) ?_
  case yd19 =>
    go_simp <;> with_reducible rfl
  simp only [Act.put, List.setIfInBounds_toArray, List.set_cons_zero, List.set_cons_succ]
  refine grow_take 20 (some 64) (v := ?vd20) rfl rfl (by kernel_rfl) (by kernel_rfl) (by kernel_rfl) (fun _ _ _ h => h) (by rfl) (fun W hW => ?yd20) ?_
  case yd20 =>
    go_simp <;> with_reducible rfl
  simp only [Act.put, List.setIfInBounds_toArray, List.set_cons_zero, List.set_cons_succ]
  refine grow_take 21 (some 65) (v := ?vd21) rfl rfl (by kernel_rfl) (by kernel_rfl) (by kernel_rfl) (fun _ _ _ h => h) (by rfl) (fun W hW => ?yd21) ?_
  case yd21 =>
    go_simp <;> with_reducible rfl
  simp only [Act.put, List.setIfInBounds_toArray, List.set_cons_zero, List.set_cons_succ]
  refine grow_take 22 (some 66) (v := ?vd22) rfl rfl (by kernel_rfl) (by kernel_rfl) (by kernel_rfl) (fun _ _ _ h => h) (by rfl) (fun W hW => ?yd22) ?_
  case yd22 =>
    go_simp <;> with_reducible rfl
  simp only [Act.put, List.setIfInBounds_toArray, List.set_cons_zero, List.set_cons_succ]
  refine grow_take 23 (some 67) (v := ?vd23) rfl rfl (by kernel_rfl) (by kernel_rfl) (by kernel_rfl) (fun _ _ _ h => h) (by rfl) (fun W hW => ?yd23) ?_
  case yd23 =>
    go_simp <;> with_reducible rfl
  simp only [Act.put, List.setIfInBounds_toArray, List.set_cons_zero, List.set_cons_succ]
  refine grow_take 24 (some 68) (v := ?vd24) rfl rfl (by kernel_rfl) (by kernel_rfl) (by kernel_rfl) (fun _ _ _ h => h) (by rfl) (fun W hW => ?yd24) ?_
  case yd24 =>
    have h1 := (Below.cell hW (p := ⟨gv, 0, none⟩) hgv).trans hcell
    go_simp <;> with_reducible rfl
  simp only [Act.put, List.setIfInBounds_toArray, List.set_cons_zero, List.set_cons_succ]
  refine grow_take 25 (some 69) (v := ?vd25) rfl rfl (by kernel_rfl) (by kernel_rfl) (by kernel_rfl) (fun _ _ _ h => h) (by rfl) (fun W hW => ?yd25) ?_
  case yd25 =>
    have h1 := txt8 W c5 (hH5.below ((Below.refl _ w5).drew.trans hW))
    go_simp <;> with_reducible rfl
  simp only [Act.put, List.setIfInBounds_toArray, List.set_cons_zero, List.set_cons_succ]
  refine grow_take 26 (some 70) (v := ?vd26) rfl rfl (by kernel_rfl) (by kernel_rfl) (by kernel_rfl) (fun _ _ _ h => h) (by rfl) (fun W hW => ?yd26) ?_
  case yd26 =>
    go_simp <;> with_reducible rfl
  simp only [Act.put, List.setIfInBounds_toArray, List.set_cons_zero, List.set_cons_succ]
  refine grow_take 27 (some 71) (v := ?vd27) rfl rfl (by kernel_rfl) (by kernel_rfl) (by kernel_rfl) (fun _ _ _ h => h) (by rfl) (fun W hW => ?yd27) ?_
  case yd27 =>
    have h1 := txt8 W cF (hHF.below ((Below.refl _ w5).drew.trans hW))
    go_simp <;> with_reducible rfl
  simp only [Act.put, List.setIfInBounds_toArray, List.set_cons_zero, List.set_cons_succ]
  refine grow_take 28 (some 72) (v := ?vd28) rfl rfl (by kernel_rfl) (by kernel_rfl) (by kernel_rfl) (fun _ _ _ h => h) (by rfl) (fun W hW => ?yd28) ?_
  case yd28 =>
    go_simp <;> with_reducible rfl
  simp only [Act.put, List.setIfInBounds_toArray, List.set_cons_zero, List.set_cons_succ]
  refine grow_take 29 (some 73) (v := ?vd29) rfl rfl (by kernel_rfl) (by kernel_rfl) (by kernel_rfl) (fun _ _ _ h => h) (by rfl) (fun W hW => ?yd29) ?_
  case yd29 =>
    go_simp <;> with_reducible rfl
  simp only [Act.put, List.setIfInBounds_toArray, List.set_cons_zero, List.set_cons_succ]
  refine grow_take 30 (some 2) (v := ?vd30) rfl rfl (by kernel_rfl) (by kernel_rfl) (by kernel_rfl) (fun _ _ _ h => h) (by rfl) (fun W hW => ?yd30) ?_
  case yd30 =>
    go_simp <;> with_reducible rfl
  simp only [Act.put, List.setIfInBounds_toArray, List.set_cons_zero, List.set_cons_succ]
  refine grow_done (by kernel_rfl) ?_ _
  go_wp2
  go_ret
  exact ⟨rfl, HB5.out.drew⟩

theorem nil_walk (w : World) (A : Option Addr) (n c : Nat) (l : List UInt8) (h : Has w w.heap.size 1 A n (bys l)) (hc : n ≤ c) (hm : c ≤ maxLen) :
    Calls Try.prog 7 #[.slice A n c] w fun e w' => e = .returned (.bool true) ∧ Below w.heap.size w w' := by
  rcases Nat.lt_or_ge 1000 n with h1 | h1
  · exact nil_great w A n c h1
  · exact nil_small w A n c l h hc hm h1


end Go.Proofs.Ytgdaangbgmmgmaa.Frame
