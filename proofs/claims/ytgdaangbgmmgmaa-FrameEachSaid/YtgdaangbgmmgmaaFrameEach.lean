/-
  'FrameEach': byte by byte, each message comes with its last byte.
-/
import Derived.Test.YtgdaangbgmmgmaaFrameLong
namespace Go.Proofs.Ytgdaangbgmmgmaa.Frame
open Go.RowKit Go.Proofs.Ytgdaangbgmmgmaa.Ber

/-- What the cutter remembers behind so many bytes. -/
def sOf (M : Nat) (F : List UInt8) (q : Nat) : CS := (run M fresh (F.take q)).2.2

theorem each_step (M : Nat) (l : List UInt8) (hl : l.length ≤ 2147483647) (hM : (fieldOf 48 l).length ≤ M) (q : Nat) (b : UInt8) (hb : (fieldOf 48 l)[q]? = some b) :
    feedOf M (sOf M (fieldOf 48 l) q) [b] = (if q + 1 = (fieldOf 48 l).length then [fieldOf 48 l] else [], 0, sOf M (fieldOf 48 l) (q + 1)) ∧
    (sOf M (fieldOf 48 l) (q + 1)).buf.length = (if q + 1 = (fieldOf 48 l).length then 0 else q + 1) ∧ Ok M (sOf M (fieldOf 48 l) q) ∧ (sOf M (fieldOf 48 l) (q + 1)).st ≠ 4 := by
  have hq : q < (fieldOf 48 l).length := (List.getElem?_eq_some_iff.1 hb).1
  obtain ⟨s, hs, h4, hbuf, hok⟩ := run_part M l hl hM q hq
  have e1 : sOf M (fieldOf 48 l) q = s := by unfold sOf; rw [hs]
  have et : (fieldOf 48 l).take (q + 1) = (fieldOf 48 l).take q ++ [b] := by
    rw [List.take_add_one, hb]
    rfl
  have hrun : run M fresh ((fieldOf 48 l).take (q + 1)) = run M s [b] := by
    rw [et, run_append, hs]
    simp [pre_nil]
  have hfeed : feedOf M s [b] = run M fresh ((fieldOf 48 l).take (q + 1)) := by
    unfold feedOf
    rw [if_neg h4, hrun]
  by_cases hlast : q + 1 = (fieldOf 48 l).length
  · have hf := run_field M l [] hl hM
    rw [List.append_nil] at hf
    have hf2 : run M fresh ((fieldOf 48 l).take (q + 1)) = ([fieldOf 48 l], 0, fresh) := by
      rw [hlast, List.take_length]
      exact hf
    have e2 : sOf M (fieldOf 48 l) (q + 1) = fresh := by unfold sOf; rw [hf2]
    rw [e1, e2, hfeed, hf2, if_pos hlast, if_pos hlast]
    exact ⟨rfl, rfl, hok, by simp [fresh]⟩
  · obtain ⟨s', hs', h4', hbuf', hok'⟩ := run_part M l hl hM (q + 1) (by omega)
    have e2 : sOf M (fieldOf 48 l) (q + 1) = s' := by unfold sOf; rw [hs']
    rw [e1, e2, hfeed, hs', if_neg hlast, if_neg hlast]
    refine ⟨rfl, ?_, hok, h4'⟩
    rw [hbuf', List.length_take]
    omega

theorem each_end (M : Nat) (l : List UInt8) (hl : l.length ≤ 2147483647) (hM : (fieldOf 48 l).length ≤ M) : sOf M (fieldOf 48 l) (fieldOf 48 l).length = fresh := by
  have hf := run_field M l [] hl hM
  rw [List.append_nil] at hf
  unfold sOf
  rw [List.take_length, hf]
  rfl

theorem Off.one {w : World} {g : Nat} {A : Option Addr} {n : Nat} {F : List UInt8} (h : Off w g A n (bys F)) {q : Nat} {b : UInt8} (hb : F[q]? = some b) : Off w g (A.map (·.add q)) 1 (bys [b]) := by
  refine ⟨rfl, ?_⟩
  rcases h.2 with h0 | ⟨ad, rfl, hne, hc⟩
  · have : F = [] := by simpa [bys] using h0
    rw [this] at hb
    simp at hb
  · refine .inr ⟨ad.add q, rfl, by rw [block_add]; exact hne, fun j u hu => ?_⟩
    have hj : j = 0 := by
      rcases Nat.eq_zero_or_pos j with h0 | h0
      · exact h0
      · rw [List.getElem?_eq_none (by simp [bys]; omega)] at hu
        cases hu
    subst hj
    rw [add_add]
    refine hc q u ?_
    simp only [bys, List.map_cons, List.map_nil, List.getElem?_cons_zero] at hu
    simp only [bys, List.getElem?_map, hb, Option.map_some]
    exact hu

set_option maxRecDepth 100000 in
theorem each_great (w : World) (A : Option Addr) (n c : Nat) (hn : 20 < n) :
    Calls Try.prog 4 #[.slice A n c] w fun e w' => e = .returned (.bool true) ∧ Below w.heap.size w w' := by
  have h1 : (20 : Int) < (n : Int) := by omega
  go_enter Try.func4, Try.ntmps4
  go_wp2_with fail
  refine (awake_any _).mono ?_
  rintro e w1 ⟨rfl, hb1⟩
  go_wp2_with fail
  refine (awake_any _).mono ?_
  rintro e w2 ⟨rfl, hb2⟩
  go_wp2
  go_ret
  exact ⟨rfl, hb1.trans (hb2.mono hb1.size)⟩

set_option maxRecDepth 100000 in
set_option maxHeartbeats 6400000 in
theorem each_of (w : World) (ga oa n c : Nat) (hn : n ≤ 20) (xs : List Value) (L : List (List UInt8)) (hc : n ≤ c) (hm : c ≤ maxLen) (hL : L.length = n)
    (HX : Hid (∀ j u, xs[j]? = some u → w.cell? ⟨ga, oa + j, none⟩ = some u)) (hga : ga < w.heap.size) (HE : Hid (Els w w.heap.size xs L)) :
    Calls Try.prog 4 #[.slice (some ⟨ga, oa, none⟩) n c] w fun e w' => e = .returned (.bool true) ∧ Below w.heap.size w w' := by
  have h1 : ¬ (20 : Int) < (n : Int) := by omega
  have hmx : c ≤ 9223372036854775807 := hm
  go_enter Try.func4, Try.ntmps4
  go_wp2_with fail
  refine (awake_any _).mono ?_
  rintro e w1 ⟨rfl, hb1⟩
  go_wp2_with fail
  refine (new_any 16384 _).mono ?_
  rintro e wn ⟨rfl, hcn, hbn⟩
  have hbwn := hb1.trans (hbn.mono hb1.size)
  have hgw : w.heap.size ≤ w1.heap.size := hb1.size
  obtain ⟨g, hg⟩ : ∃ g, g = w1.heap.size := ⟨_, rfl⟩
  rw [← hg] at hcn hgw ⊢
  have HC0 := hide (cutter_new hcn)
  have HB0 := hide hbwn
  clear hb1 hbn hcn hbwn hg
  go_wp2
  go_loopw [21] (fun i wr => ∃ k : Nat, k ≤ n ∧ i = .int .i64 k ∧ Hid (Cutter wr g 16384 fresh) ∧ Hid (Below w.heap.size w wr)) (fun i _ => n - (intOf i).toNat)
  case atStart => exact ⟨0, Nat.zero_le _, rfl, HC0, HB0⟩
  case round =>
    obtain ⟨k, hk, rfl, HC, HB⟩ := hrel
    by_cases hlt : k < n
    · obtain ⟨l, hl⟩ : ∃ l, L[k]? = some l := ⟨_, List.getElem?_eq_getElem (by omega)⟩
      obtain ⟨Al, cl, hx, hHl⟩ := HE.out k l hl
      have hcell := (Below.cell HB.out (p := ⟨ga, oa + k, none⟩) hga).trans (HX.out k _ hx)
      have hki : (k : Int) < (n : Int) := by omega
      have hkc : (k : Int) < (c : Int) := by omega
      obtain ⟨ln, hln⟩ : ∃ ln, ln = l.length := ⟨_, rfl⟩
      rw [← hln] at hcell
      by_cases hbig : 1000 < ln
      · have hbi : (1000 : Int) < (ln : Int) := by omega
        have HBB := hide HB.out
        clear hl hx hHl HC hln
        go_wp2
        go_ret
        exact ⟨rfl, HBB.out⟩
      · have hbi : ¬ (1000 : Int) < (ln : Int) := by omega
        have h2F := fieldOf_two 48 l (by omega)
        have hstep := hide fun q b hb => each_step 16384 l (by omega) (by omega) q b hb
        have hend := each_end 16384 l (by omega) (by omega)
        have HFL := hide (rfield_any 48 wr wr.heap.size Al ln cl l (by rw [hln]; exact (hHl.below HB.out).upto HB.out.size) (Nat.le_refl _) (by omega))
        obtain ⟨F, hF⟩ : ∃ F, F = fieldOf 48 l := ⟨_, rfl⟩
        rw [← hF] at h2F hstep hend HFL
        have HEND := hide hend
        have hF0 : sOf 16384 F 0 = fresh := rfl
        have HF0 := hide hF0
        obtain ⟨Lf, hLf⟩ : ∃ Lf, Lf = F.length := ⟨_, rfl⟩
        rw [← hLf] at h2F HEND HFL hstep
        have hLf2 : 2 ≤ Lf := h2F.1
        have hLfm : Lf ≤ 1006 := by omega
        have HLF := hide hLf
        clear hl hx hHl hend hF hF0 hln h2F hLf
        go_wp2_with fail
        refine HFL.out.mono ?_
        rintro e wf ⟨vF, rfl, hoF, hbF⟩
        obtain ⟨AF, cF, rfl, hcF, hmF, hHF0⟩ := own_form' hoF
        have hgr := HC.out.lt
        have HCF := hide (HC.out.below hbF hgr)
        have HBF := hide (HB.out.trans (hbF.mono HB.out.size))
        have HOF := hide hoF
        obtain ⟨gb, hgb⟩ : ∃ gb, gb = wr.heap.size := ⟨_, rfl⟩
        rw [← hgb] at HOF hgr
        have hmF' : cF ≤ 9223372036854775807 := hmF
        clear HC HB hHF0 hoF hbF HFL hcell hgb
        go_wp2
        obtain ⟨wo, hwo⟩ : ∃ wo : World, wo = wr := ⟨_, rfl⟩
        clear hwo
        go_loopw [37] (fun i wr => ∃ q : Nat, q ≤ Lf ∧ i = .int .i64 q ∧ Hid (Cutter wr g 16384 (sOf 16384 F q)) ∧ Hid (Near g wf wr)) (fun i _ => Lf - (intOf i).toNat)
        case atStart => exact ⟨0, Nat.zero_le _, rfl, by rw [HF0.out]; exact HCF, hide (Near.refl _ _)⟩
        case round =>
          obtain ⟨q, hq, rfl, HC, HN⟩ := hrel
          by_cases hqlt : q < Lf
          · obtain ⟨b, hb⟩ : ∃ b, F[q]? = some b := ⟨_, List.getElem?_eq_getElem (by rw [← HLF.out]; exact hqlt)⟩
            obtain ⟨st1, st2, st3, st4⟩ := hstep.out q b hb
            have ho := own_near HOF.out HN.out hgr
            have hoff := (Off.own ho hgr).one hb
            have hqc : ¬ cF = q := by omega
            have hqi : (q : Int) < (Lf : Int) := by omega
            have hqci : (q : Int) < (cF : Int) := by omega
            have hf := feed_any wr g 16384 16384 (sOf 16384 F q) [b] st3 rfl (Nat.le_refl _) HC.out (AF.map (·.add q)) 1 (cF - q) hoff (by omega) (by omega) (fun _ => by simp)
            rw [st1] at hf
            unfold FeedSays at hf
            have HFD := hide hf
            have hgwr := HC.out.lt
            clear hf hoff ho HC st1 st3 hb
            by_cases hlast : q + 1 = Lf
            · rw [if_pos hlast] at HFD st2
              have hl1 : (Lf : Int) - 1 = (q : Int) := by omega
              have hmod : ((q : Int) + 1).tmod (Lf : Int) = 0 := by
                rw [show (q : Int) + 1 = (Lf : Int) by omega]
                exact Int.tmod_self
              clear hlast
              go_wp2_with fail
              refine HFD.out.mono ?_
              rintro e w7 ⟨v7, rfl, hm7, hc7, hn7⟩
              have HC7 : Hid (Cutter w7.drew g 16384 (sOf 16384 F (q + 1))) := hide (hc7.below ((Below.refl (g + 1) w7).drew) (by omega))
              have HN7 := hide (HN.out.trans hn7)
              obtain ⟨m7, _, hcut7⟩ := hc7
              have hwt := waiting_any w7.drew g _ _ _ _ _ _ hcut7.drew
              rw [st2] at hwt
              have hwt2 : Calls Try.prog 15 #[.pointer (some ⟨g, 0, none⟩)] w7.drew fun e w' => e = .returned (.int .i64 0) ∧ w' = w7.drew := hwt
              have HWT := hide hwt2
              obtain ⟨gv, cv, A5, c5, rfl, hcv1, hcvm, _, hcell, hH5⟩ := hm7.one
              have hgv : gv < w7.heap.size := World.block_lt_of_cell? w7 ⟨gv, 0, none⟩ hcell
              have hHF7 := Has.own (own_near HOF.out HN7.out hgr)
              have hLfz : ¬ Lf = 0 := by omega
              have hwr : IntKind.i64.wrap ((q : Int) + 1) = (q : Int) + 1 := by simp [IntKind.wrap, IntKind.signed, IntKind.bits]; omega
              clear hm7 hn7 hcut7 hwt hwt2 HFD st2
              go_wp2_with fail
              refine grow_begin_at w7.heap.size (by kernel_rfl) ?_
              refine grow_take 0 (some 55) (v := ?vg0) rfl rfl (by kernel_rfl) (by kernel_rfl) (by kernel_rfl) (fun _ _ _ h => h) (by rfl) (fun W hW => ?yg0) ?_
              case yg0 =>
                go_simp <;> with_reducible rfl
              simp only [Act.put, List.setIfInBounds_toArray, List.set_cons_zero, List.set_cons_succ]
              refine grow_take 1 (some 56) (v := ?vg1) rfl rfl (by kernel_rfl) (by kernel_rfl) (by kernel_rfl) (fun _ _ _ h => h) (by rfl) (fun W hW => ?yg1) ?_
              case yg1 =>
                go_simp <;> with_reducible rfl
              simp only [Act.put, List.setIfInBounds_toArray, List.set_cons_zero, List.set_cons_succ]
              refine grow_take 2 (some 57) (v := ?vg2) rfl rfl (by kernel_rfl) (by kernel_rfl) (by kernel_rfl) (fun _ _ _ h => h) (by rfl) (fun W hW => ?yg2) ?_
              case yg2 =>
                go_simp <;> with_reducible rfl
              simp only [Act.put, List.setIfInBounds_toArray, List.set_cons_zero, List.set_cons_succ]
              refine grow_take 3 (some 58) (v := ?vg3) rfl rfl (by kernel_rfl) (by kernel_rfl) (by kernel_rfl) (fun _ _ _ h => h) (by rfl) (fun W hW => ?yg3) ?_
              case yg3 =>
                go_simp <;> with_reducible rfl
              simp only [Act.put, List.setIfInBounds_toArray, List.set_cons_zero, List.set_cons_succ]
              refine grow_take 4 (some 59) (v := ?vg4) rfl rfl (by kernel_rfl) (by kernel_rfl) (by kernel_rfl) (fun _ _ _ h => h) (by rfl) (fun W hW => ?yg4) ?_
              case yg4 =>
                go_simp <;> with_reducible rfl
              simp only [Act.put, List.setIfInBounds_toArray, List.set_cons_zero, List.set_cons_succ]
              refine grow_take 5 (some 60) (v := ?vg5) rfl rfl (by kernel_rfl) (by kernel_rfl) (by kernel_rfl) (fun _ _ _ h => h) (by rfl) (fun W hW => ?yg5) ?_
              case yg5 =>
                go_simp <;> with_reducible rfl
              simp only [Act.put, List.setIfInBounds_toArray, List.set_cons_zero, List.set_cons_succ]
              refine grow_take 6 (some 61) (v := ?vg6) rfl rfl (by kernel_rfl) (by kernel_rfl) (by kernel_rfl) (fun _ _ _ h => h) (by rfl) (fun W hW => ?yg6) ?_
              case yg6 =>
                go_simp <;> with_reducible rfl
              simp only [Act.put, List.setIfInBounds_toArray, List.set_cons_zero, List.set_cons_succ]
              refine grow_take 7 (some 62) (v := ?vg7) rfl rfl (by kernel_rfl) (by kernel_rfl) (by kernel_rfl) (fun _ _ _ h => h) (by rfl) (fun W hW => ?yg7) ?_
              case yg7 =>
                go_simp <;> with_reducible rfl
              simp only [Act.put, List.setIfInBounds_toArray, List.set_cons_zero, List.set_cons_succ]
              refine grow_take 8 (some 63) (v := ?vg8) rfl rfl (by kernel_rfl) (by kernel_rfl) (by kernel_rfl) (fun _ _ _ h => h) (by rfl) (fun W hW => ?yg8) ?_
              case yg8 =>
                go_simp <;> with_reducible rfl
              simp only [Act.put, List.setIfInBounds_toArray, List.set_cons_zero, List.set_cons_succ]
              refine grow_take 9 (some 64) (v := ?vg9) rfl rfl (by kernel_rfl) (by kernel_rfl) (by kernel_rfl) (fun _ _ _ h => h) (by rfl) (fun W hW => ?yg9) ?_
              case yg9 =>
                go_simp <;> with_reducible rfl
              simp only [Act.put, List.setIfInBounds_toArray, List.set_cons_zero, List.set_cons_succ]
              refine grow_take 10 (some 65) (v := ?vg10) rfl rfl (by kernel_rfl) (by kernel_rfl) (by kernel_rfl) (fun _ _ _ h => h) (by rfl) (fun W hW => ?yg10) ?_
              case yg10 =>
                go_simp <;> with_reducible rfl
              simp only [Act.put, List.setIfInBounds_toArray, List.set_cons_zero, List.set_cons_succ]
              refine grow_take 11 (some 66) (v := ?vg11) rfl rfl (by kernel_rfl) (by kernel_rfl) (by kernel_rfl) (fun _ _ _ h => h) (by rfl) (fun W hW => ?yg11) ?_
              case yg11 =>
                go_simp <;> with_reducible rfl
              simp only [Act.put, List.setIfInBounds_toArray, List.set_cons_zero, List.set_cons_succ]
              refine grow_take 12 (some 67) (v := ?vg12) rfl rfl (by kernel_rfl) (by kernel_rfl) (by kernel_rfl) (fun _ _ _ h => h) (by rfl) (fun W hW => ?yg12) ?_
              case yg12 =>
                go_simp <;> with_reducible rfl
              simp only [Act.put, List.setIfInBounds_toArray, List.set_cons_zero, List.set_cons_succ]
              refine grow_take 13 (some 68) (v := ?vg13) rfl rfl (by kernel_rfl) (by kernel_rfl) (by kernel_rfl) (fun _ _ _ h => h) (by rfl) (fun W hW => ?yg13) ?_
              case yg13 =>
                go_simp <;> with_reducible rfl
              simp only [Act.put, List.setIfInBounds_toArray, List.set_cons_zero, List.set_cons_succ]
              refine grow_take 14 (some 69) (v := ?vg14) rfl rfl (by kernel_rfl) (by kernel_rfl) (by kernel_rfl) (fun _ _ _ h => h) (by rfl) (fun W hW => ?yg14) ?_
              case yg14 =>
                have h1 := (Below.cell hW (p := ⟨gv, 0, none⟩) hgv).trans hcell
                go_simp <;> with_reducible rfl
              simp only [Act.put, List.setIfInBounds_toArray, List.set_cons_zero, List.set_cons_succ]
              refine grow_take 15 (some 70) (v := ?vg15) rfl rfl (by kernel_rfl) (by kernel_rfl) (by kernel_rfl) (fun _ _ _ h => h) (by rfl) (fun W hW => ?yg15) ?_
              case yg15 =>
                have h1 := txt8 W c5 (hH5.below ((Below.refl _ w7).drew.trans hW))
                go_simp <;> with_reducible rfl
              simp only [Act.put, List.setIfInBounds_toArray, List.set_cons_zero, List.set_cons_succ]
              refine grow_take 16 (some 71) (v := ?vg16) rfl rfl (by kernel_rfl) (by kernel_rfl) (by kernel_rfl) (fun _ _ _ h => h) (by rfl) (fun W hW => ?yg16) ?_
              case yg16 =>
                go_simp <;> with_reducible rfl
              simp only [Act.put, List.setIfInBounds_toArray, List.set_cons_zero, List.set_cons_succ]
              refine grow_take 17 (some 72) (v := ?vg17) rfl rfl (by kernel_rfl) (by kernel_rfl) (by kernel_rfl) (fun _ _ _ h => h) (by rfl) (fun W hW => ?yg17) ?_
              case yg17 =>
                have h1 := txt8 W cF (hHF7.below ((Below.refl _ w7).drew.trans hW))
                go_simp <;> with_reducible rfl
              simp only [Act.put, List.setIfInBounds_toArray, List.set_cons_zero, List.set_cons_succ]
              refine grow_take 18 (some 73) (v := ?vg18) rfl rfl (by kernel_rfl) (by kernel_rfl) (by kernel_rfl) (fun _ _ _ h => h) (by rfl) (fun W hW => ?yg18) ?_
              case yg18 =>
                go_simp <;> with_reducible rfl
              simp only [Act.put, List.setIfInBounds_toArray, List.set_cons_zero, List.set_cons_succ]
              refine grow_take 19 (some 74) (v := ?vg19) rfl rfl (by kernel_rfl) (by kernel_rfl) (by kernel_rfl) (fun _ _ _ h => h) (by rfl) (fun W hW => ?yg19) ?_
              case yg19 =>
                go_simp <;> with_reducible rfl
              simp only [Act.put, List.setIfInBounds_toArray, List.set_cons_zero, List.set_cons_succ]
              refine grow_take 20 (some 75) (v := ?vg20) rfl rfl (by kernel_rfl) (by kernel_rfl) (by kernel_rfl) (fun _ _ _ h => h) (by rfl) (fun W hW => ?yg20) ?_
              case yg20 =>
                go_simp <;> with_reducible rfl
              simp only [Act.put, List.setIfInBounds_toArray, List.set_cons_zero, List.set_cons_succ]
              refine grow_take 21 (some 76) (v := ?vg21) rfl rfl (by kernel_rfl) (by kernel_rfl) (by kernel_rfl) (fun _ _ _ h => h) (by rfl) (fun W hW => ?yg21) ?_
              case yg21 =>
                go_simp <;> with_reducible rfl
              simp only [Act.put, List.setIfInBounds_toArray, List.set_cons_zero, List.set_cons_succ]
              refine grow_take 22 (some 77) (v := ?vg22) rfl rfl (by kernel_rfl) (by kernel_rfl) (by kernel_rfl) (fun _ _ _ h => h) (by rfl) (fun W hW => ?yg22) ?_
              case yg22 =>
                go_simp <;> with_reducible rfl
              simp only [Act.put, List.setIfInBounds_toArray, List.set_cons_zero, List.set_cons_succ]
              refine grow_take 23 (some 78) (v := ?vg23) rfl rfl (by kernel_rfl) (by kernel_rfl) (by kernel_rfl) (fun _ _ _ h => h) (by rfl) (fun W hW => ?yg23) ?_
              case yg23 =>
                go_simp <;> with_reducible rfl
              simp only [Act.put, List.setIfInBounds_toArray, List.set_cons_zero, List.set_cons_succ]
              refine grow_take 24 (some 79) (v := ?vg24) rfl rfl (by kernel_rfl) (by kernel_rfl) (by kernel_rfl) (fun _ _ _ h => h) (by rfl) (fun W hW => ?yg24) ?_
              case yg24 =>
                go_simp <;> with_reducible rfl
              simp only [Act.put, List.setIfInBounds_toArray, List.set_cons_zero, List.set_cons_succ]
              refine grow_take 25 (some 80) (v := ?vg25) rfl rfl (by kernel_rfl) (by kernel_rfl) (by kernel_rfl) (fun _ _ _ h => h) (by rfl) (fun W hW => ?yg25) ?_
              case yg25 =>
                go_simp <;> with_reducible rfl
              simp only [Act.put, List.setIfInBounds_toArray, List.set_cons_zero, List.set_cons_succ]
              refine grow_take 26 (some 81) (v := ?vg26) rfl rfl (by kernel_rfl) (by kernel_rfl) (by kernel_rfl) (fun _ _ _ h => h) (by rfl) (fun W hW => ?yg26) ?_
              case yg26 =>
                go_simp <;> with_reducible rfl
              simp only [Act.put, List.setIfInBounds_toArray, List.set_cons_zero, List.set_cons_succ]
              refine grow_take 27 (some 82) (v := ?vg27) rfl rfl (by kernel_rfl) (by kernel_rfl) (by kernel_rfl) (fun _ _ _ h => h) (by rfl) (fun W hW => ?yg27) ?_
              case yg27 =>
                go_simp <;> with_reducible rfl
              simp only [Act.put, List.setIfInBounds_toArray, List.set_cons_zero, List.set_cons_succ]
              refine grow_take 29 (some 84) (v := ?vg29) rfl rfl (by kernel_rfl) (by kernel_rfl) (by kernel_rfl) (fun _ _ _ h => h) (by rfl) (fun W hW => ?yg29) ?_
              case yg29 =>
                go_simp <;> with_reducible rfl
              simp only [Act.put, List.setIfInBounds_toArray, List.set_cons_zero, List.set_cons_succ]
              refine grow_take 30 (some 85) (v := ?vg30) rfl rfl (by kernel_rfl) (by kernel_rfl) (by kernel_rfl) (fun _ _ _ h => h) (by rfl) (fun W hW => ?yg30) ?_
              case yg30 =>
                go_simp <;> with_reducible rfl
              simp only [Act.put, List.setIfInBounds_toArray, List.set_cons_zero, List.set_cons_succ]
              refine grow_take 31 (some 86) (v := ?vg31) rfl rfl (by kernel_rfl) (by kernel_rfl) (by kernel_rfl) (fun _ _ _ h => h) (by rfl) (fun W hW => ?yg31) ?_
              case yg31 =>
                go_simp <;> with_reducible rfl
              simp only [Act.put, List.setIfInBounds_toArray, List.set_cons_zero, List.set_cons_succ]
              refine grow_take 32 (some 87) (v := ?vg32) rfl rfl (by kernel_rfl) (by kernel_rfl) (by kernel_rfl) (fun _ _ _ h => h) (by rfl) (fun W hW => ?yg32) ?_
              case yg32 =>
                go_simp <;> with_reducible rfl
              simp only [Act.put, List.setIfInBounds_toArray, List.set_cons_zero, List.set_cons_succ]
              refine grow_take 33 (some 88) (v := ?vg33) rfl rfl (by kernel_rfl) (by kernel_rfl) (by kernel_rfl) (fun _ _ _ h => h) (by rfl) (fun W hW => ?yg33) ?_
              case yg33 =>
                go_simp <;> with_reducible rfl
              simp only [Act.put, List.setIfInBounds_toArray, List.set_cons_zero, List.set_cons_succ]
              refine grow_only 28 rfl (by kernel_rfl) (fun K hK => ?_)
              go_simp
              refine HWT.out.mono ?_
              rintro e w8 ⟨rfl, rfl⟩
              refine hK.out _ _ (Below.refl _ _) ?_
              clear hK K
              try simp only [Act.put, List.setIfInBounds_toArray, List.set_cons_zero, List.set_cons_succ]
              refine grow_take 34 (some 89) (v := ?vg34) rfl rfl (by kernel_rfl) (by kernel_rfl) (by kernel_rfl) (fun _ _ _ h => h) (by rfl) (fun W hW => ?yg34) ?_
              case yg34 =>
                go_simp <;> with_reducible rfl
              simp only [Act.put, List.setIfInBounds_toArray, List.set_cons_zero, List.set_cons_succ]
              refine grow_take 35 (some 90) (v := ?vg35) rfl rfl (by kernel_rfl) (by kernel_rfl) (by kernel_rfl) (fun _ _ _ h => h) (by rfl) (fun W hW => ?yg35) ?_
              case yg35 =>
                go_simp <;> with_reducible rfl
              simp only [Act.put, List.setIfInBounds_toArray, List.set_cons_zero, List.set_cons_succ]
              refine grow_done (by kernel_rfl) ?_ _
              go_wp2
              go_roundw
              case rel => exact ⟨q + 1, by omega, by go_num, HC7, HN7.out.trans (Near.drew _ _)⟩
              case measure => simp [intOf]; omega

            · rw [if_neg hlast] at HFD st2
              have hl1 : ¬ (q : Int) = (Lf : Int) - 1 := by omega
              have hl1b : ((q : Int) == (Lf : Int) - 1) = false := beq_eq_false_iff_ne.2 hl1
              have hq2 : q + 1 < Lf := by omega
              clear hlast
              go_wp2_with fail
              refine HFD.out.mono ?_
              rintro e w7 ⟨v7, rfl, hm7, hc7, hn7⟩
              have HC7 : Hid (Cutter w7.drew g 16384 (sOf 16384 F (q + 1))) := hide (hc7.below ((Below.refl (g + 1) w7).drew) (by omega))
              have HN7 := hide (HN.out.trans hn7)
              obtain ⟨m7, _, hcut7⟩ := hc7
              have hwt := waiting_any w7.drew g _ _ _ _ _ _ hcut7.drew
              rw [st2] at hwt
              have hq1 : ((q + 1 : Nat) : Int) = (q : Int) + 1 := by omega
              rw [hq1] at hwt
              have HWT := hide hwt
              obtain ⟨A5, c5, rfl⟩ := hm7.zero
              have hmod : ((q : Int) + 1).tmod (Lf : Int) = (q : Int) + 1 := Int.tmod_eq_of_lt (by omega) (by omega)
              have hLfz : ¬ Lf = 0 := by omega
              have hwr : IntKind.i64.wrap ((q : Int) + 1) = (q : Int) + 1 := by simp [IntKind.wrap, IntKind.signed, IntKind.bits]; omega
              clear hm7 hn7 hcut7 hwt HFD st2 hq1
              go_wp2_with fail
              refine grow_begin_at w7.heap.size (by kernel_rfl) ?_
              refine grow_take 0 (some 55) (v := ?vf0) rfl rfl (by kernel_rfl) (by kernel_rfl) (by kernel_rfl) (fun _ _ _ h => h) (by rfl) (fun W hW => ?yf0) ?_
              case yf0 =>
                go_simp <;> with_reducible rfl
              simp only [Act.put, List.setIfInBounds_toArray, List.set_cons_zero, List.set_cons_succ]
              refine grow_take 1 (some 56) (v := ?vf1) rfl rfl (by kernel_rfl) (by kernel_rfl) (by kernel_rfl) (fun _ _ _ h => h) (by rfl) (fun W hW => ?yf1) ?_
              case yf1 =>
                go_simp <;> with_reducible rfl
              simp only [Act.put, List.setIfInBounds_toArray, List.set_cons_zero, List.set_cons_succ]
              refine grow_take 2 (some 57) (v := ?vf2) rfl rfl (by kernel_rfl) (by kernel_rfl) (by kernel_rfl) (fun _ _ _ h => h) (by rfl) (fun W hW => ?yf2) ?_
              case yf2 =>
                go_simp <;> with_reducible rfl
              simp only [Act.put, List.setIfInBounds_toArray, List.set_cons_zero, List.set_cons_succ]
              refine grow_take 3 (some 58) (v := ?vf3) rfl rfl (by kernel_rfl) (by kernel_rfl) (by kernel_rfl) (fun _ _ _ h => h) (by rfl) (fun W hW => ?yf3) ?_
              case yf3 =>
                go_simp <;> with_reducible rfl
              simp only [Act.put, List.setIfInBounds_toArray, List.set_cons_zero, List.set_cons_succ]
              refine grow_take 4 (some 59) (v := ?vf4) rfl rfl (by kernel_rfl) (by kernel_rfl) (by kernel_rfl) (fun _ _ _ h => h) (by rfl) (fun W hW => ?yf4) ?_
              case yf4 =>
                go_simp <;> with_reducible rfl
              simp only [Act.put, List.setIfInBounds_toArray, List.set_cons_zero, List.set_cons_succ]
              refine grow_take 5 (some 60) (v := ?vf5) rfl rfl (by kernel_rfl) (by kernel_rfl) (by kernel_rfl) (fun _ _ _ h => h) (by rfl) (fun W hW => ?yf5) ?_
              case yf5 =>
                go_simp <;> with_reducible rfl
              simp only [Act.put, List.setIfInBounds_toArray, List.set_cons_zero, List.set_cons_succ]
              refine grow_take 6 (some 61) (v := ?vf6) rfl rfl (by kernel_rfl) (by kernel_rfl) (by kernel_rfl) (fun _ _ _ h => h) (by rfl) (fun W hW => ?yf6) ?_
              case yf6 =>
                go_simp <;> with_reducible rfl
              simp only [Act.put, List.setIfInBounds_toArray, List.set_cons_zero, List.set_cons_succ]
              refine grow_take 7 (some 62) (v := ?vf7) rfl rfl (by kernel_rfl) (by kernel_rfl) (by kernel_rfl) (fun _ _ _ h => h) (by rfl) (fun W hW => ?yf7) ?_
              case yf7 =>
                go_simp <;> with_reducible rfl
              simp only [Act.put, List.setIfInBounds_toArray, List.set_cons_zero, List.set_cons_succ]
              refine grow_take 8 (some 63) (v := ?vf8) rfl rfl (by kernel_rfl) (by kernel_rfl) (by kernel_rfl) (fun _ _ _ h => h) (by rfl) (fun W hW => ?yf8) ?_
              case yf8 =>
                go_simp <;> with_reducible rfl
              simp only [Act.put, List.setIfInBounds_toArray, List.set_cons_zero, List.set_cons_succ]
              refine grow_take 9 (some 64) (v := ?vf9) rfl rfl (by kernel_rfl) (by kernel_rfl) (by kernel_rfl) (fun _ _ _ h => h) (by rfl) (fun W hW => ?yf9) ?_
              case yf9 =>
                go_simp <;> with_reducible rfl
              simp only [Act.put, List.setIfInBounds_toArray, List.set_cons_zero, List.set_cons_succ]
              refine grow_take 10 (some 65) (v := ?vf10) rfl rfl (by kernel_rfl) (by kernel_rfl) (by kernel_rfl) (fun _ _ _ h => h) (by rfl) (fun W hW => ?yf10) ?_
              case yf10 =>
                go_simp <;> with_reducible rfl
              simp only [Act.put, List.setIfInBounds_toArray, List.set_cons_zero, List.set_cons_succ]
              refine grow_take 11 (some 66) (v := ?vf11) rfl rfl (by kernel_rfl) (by kernel_rfl) (by kernel_rfl) (fun _ _ _ h => h) (by rfl) (fun W hW => ?yf11) ?_
              case yf11 =>
                go_simp <;> with_reducible rfl
              simp only [Act.put, List.setIfInBounds_toArray, List.set_cons_zero, List.set_cons_succ]
              refine grow_skip 12 (some 67) rfl rfl (by kernel_rfl) (by kernel_rfl) (by kernel_rfl) (fun _ _ _ h => h) (by rfl) ?_
              simp only [Act.put, List.setIfInBounds_toArray, List.set_cons_zero, List.set_cons_succ]
              refine grow_skip 13 (some 68) rfl rfl (by kernel_rfl) (by kernel_rfl) (by kernel_rfl) (fun _ _ _ h => h) (by rfl) ?_
              simp only [Act.put, List.setIfInBounds_toArray, List.set_cons_zero, List.set_cons_succ]
              refine grow_skip 14 (some 69) rfl rfl (by kernel_rfl) (by kernel_rfl) (by kernel_rfl) (fun _ _ _ h => h) (by rfl) ?_
              simp only [Act.put, List.setIfInBounds_toArray, List.set_cons_zero, List.set_cons_succ]
              refine grow_skip 15 (some 70) rfl rfl (by kernel_rfl) (by kernel_rfl) (by kernel_rfl) (fun _ _ _ h => h) (by rfl) ?_
              simp only [Act.put, List.setIfInBounds_toArray, List.set_cons_zero, List.set_cons_succ]
              refine grow_skip 16 (some 71) rfl rfl (by kernel_rfl) (by kernel_rfl) (by kernel_rfl) (fun _ _ _ h => h) (by rfl) ?_
              simp only [Act.put, List.setIfInBounds_toArray, List.set_cons_zero, List.set_cons_succ]
              refine grow_skip 17 (some 72) rfl rfl (by kernel_rfl) (by kernel_rfl) (by kernel_rfl) (fun _ _ _ h => h) (by rfl) ?_
              simp only [Act.put, List.setIfInBounds_toArray, List.set_cons_zero, List.set_cons_succ]
              refine grow_skip 18 (some 73) rfl rfl (by kernel_rfl) (by kernel_rfl) (by kernel_rfl) (fun _ _ _ h => h) (by rfl) ?_
              simp only [Act.put, List.setIfInBounds_toArray, List.set_cons_zero, List.set_cons_succ]
              refine grow_take 19 (some 74) (v := ?vf19) rfl rfl (by kernel_rfl) (by kernel_rfl) (by kernel_rfl) (fun _ _ _ h => h) (by rfl) (fun W hW => ?yf19) ?_
              case yf19 =>
                go_simp <;> with_reducible rfl
              simp only [Act.put, List.setIfInBounds_toArray, List.set_cons_zero, List.set_cons_succ]
              refine grow_take 20 (some 75) (v := ?vf20) rfl rfl (by kernel_rfl) (by kernel_rfl) (by kernel_rfl) (fun _ _ _ h => h) (by rfl) (fun W hW => ?yf20) ?_
              case yf20 =>
                go_simp <;> with_reducible rfl
              simp only [Act.put, List.setIfInBounds_toArray, List.set_cons_zero, List.set_cons_succ]
              refine grow_take 21 (some 76) (v := ?vf21) rfl rfl (by kernel_rfl) (by kernel_rfl) (by kernel_rfl) (fun _ _ _ h => h) (by rfl) (fun W hW => ?yf21) ?_
              case yf21 =>
                go_simp <;> with_reducible rfl
              simp only [Act.put, List.setIfInBounds_toArray, List.set_cons_zero, List.set_cons_succ]
              refine grow_take 22 (some 77) (v := ?vf22) rfl rfl (by kernel_rfl) (by kernel_rfl) (by kernel_rfl) (fun _ _ _ h => h) (by rfl) (fun W hW => ?yf22) ?_
              case yf22 =>
                go_simp <;> with_reducible rfl
              simp only [Act.put, List.setIfInBounds_toArray, List.set_cons_zero, List.set_cons_succ]
              refine grow_take 23 (some 78) (v := ?vf23) rfl rfl (by kernel_rfl) (by kernel_rfl) (by kernel_rfl) (fun _ _ _ h => h) (by rfl) (fun W hW => ?yf23) ?_
              case yf23 =>
                go_simp <;> with_reducible rfl
              simp only [Act.put, List.setIfInBounds_toArray, List.set_cons_zero, List.set_cons_succ]
              refine grow_take 24 (some 79) (v := ?vf24) rfl rfl (by kernel_rfl) (by kernel_rfl) (by kernel_rfl) (fun _ _ _ h => h) (by rfl) (fun W hW => ?yf24) ?_
              case yf24 =>
                go_simp <;> with_reducible rfl
              simp only [Act.put, List.setIfInBounds_toArray, List.set_cons_zero, List.set_cons_succ]
              refine grow_take 25 (some 80) (v := ?vf25) rfl rfl (by kernel_rfl) (by kernel_rfl) (by kernel_rfl) (fun _ _ _ h => h) (by rfl) (fun W hW => ?yf25) ?_
              case yf25 =>
                go_simp <;> with_reducible rfl
              simp only [Act.put, List.setIfInBounds_toArray, List.set_cons_zero, List.set_cons_succ]
              refine grow_take 26 (some 81) (v := ?vf26) rfl rfl (by kernel_rfl) (by kernel_rfl) (by kernel_rfl) (fun _ _ _ h => h) (by rfl) (fun W hW => ?yf26) ?_
              case yf26 =>
                go_simp <;> with_reducible rfl
              simp only [Act.put, List.setIfInBounds_toArray, List.set_cons_zero, List.set_cons_succ]
              refine grow_take 27 (some 82) (v := ?vf27) rfl rfl (by kernel_rfl) (by kernel_rfl) (by kernel_rfl) (fun _ _ _ h => h) (by rfl) (fun W hW => ?yf27) ?_
              case yf27 =>
                go_simp <;> with_reducible rfl
              simp only [Act.put, List.setIfInBounds_toArray, List.set_cons_zero, List.set_cons_succ]
              refine grow_take 29 (some 84) (v := ?vf29) rfl rfl (by kernel_rfl) (by kernel_rfl) (by kernel_rfl) (fun _ _ _ h => h) (by rfl) (fun W hW => ?yf29) ?_
              case yf29 =>
                go_simp <;> with_reducible rfl
              simp only [Act.put, List.setIfInBounds_toArray, List.set_cons_zero, List.set_cons_succ]
              refine grow_take 30 (some 85) (v := ?vf30) rfl rfl (by kernel_rfl) (by kernel_rfl) (by kernel_rfl) (fun _ _ _ h => h) (by rfl) (fun W hW => ?yf30) ?_
              case yf30 =>
                go_simp <;> with_reducible rfl
              simp only [Act.put, List.setIfInBounds_toArray, List.set_cons_zero, List.set_cons_succ]
              refine grow_take 31 (some 86) (v := ?vf31) rfl rfl (by kernel_rfl) (by kernel_rfl) (by kernel_rfl) (fun _ _ _ h => h) (by rfl) (fun W hW => ?yf31) ?_
              case yf31 =>
                go_simp <;> with_reducible rfl
              simp only [Act.put, List.setIfInBounds_toArray, List.set_cons_zero, List.set_cons_succ]
              refine grow_take 32 (some 87) (v := ?vf32) rfl rfl (by kernel_rfl) (by kernel_rfl) (by kernel_rfl) (fun _ _ _ h => h) (by rfl) (fun W hW => ?yf32) ?_
              case yf32 =>
                go_simp <;> with_reducible rfl
              simp only [Act.put, List.setIfInBounds_toArray, List.set_cons_zero, List.set_cons_succ]
              refine grow_take 33 (some 88) (v := ?vf33) rfl rfl (by kernel_rfl) (by kernel_rfl) (by kernel_rfl) (fun _ _ _ h => h) (by rfl) (fun W hW => ?yf33) ?_
              case yf33 =>
                go_simp <;> with_reducible rfl
              simp only [Act.put, List.setIfInBounds_toArray, List.set_cons_zero, List.set_cons_succ]
              refine grow_only 28 rfl (by kernel_rfl) (fun K hK => ?_)
              go_simp
              refine HWT.out.mono ?_
              rintro e w8 ⟨rfl, rfl⟩
              refine hK.out _ _ (Below.refl _ _) ?_
              clear hK K
              try simp only [Act.put, List.setIfInBounds_toArray, List.set_cons_zero, List.set_cons_succ]
              refine grow_take 34 (some 89) (v := ?vf34) rfl rfl (by kernel_rfl) (by kernel_rfl) (by kernel_rfl) (fun _ _ _ h => h) (by rfl) (fun W hW => ?yf34) ?_
              case yf34 =>
                go_simp <;> with_reducible rfl
              simp only [Act.put, List.setIfInBounds_toArray, List.set_cons_zero, List.set_cons_succ]
              refine grow_take 35 (some 90) (v := ?vf35) rfl rfl (by kernel_rfl) (by kernel_rfl) (by kernel_rfl) (fun _ _ _ h => h) (by rfl) (fun W hW => ?yf35) ?_
              case yf35 =>
                go_simp <;> with_reducible rfl
              simp only [Act.put, List.setIfInBounds_toArray, List.set_cons_zero, List.set_cons_succ]
              refine grow_done (by kernel_rfl) ?_ _
              go_wp2
              go_roundw
              case rel => exact ⟨q + 1, by omega, by go_num, HC7, HN7.out.trans (Near.drew _ _)⟩
              case measure => simp [intOf]; omega

          · obtain rfl : q = Lf := by omega
            have HC2 := HC.out
            rw [HEND.out] at HC2
            have HC3 := hide HC2
            have HB3 := hide (HBF.out.trans (HN.out.below (B := w.heap.size) hgw HBF.out.size))
            clear HC2 HC HN HBF HCF
            go_wp2
            go_roundw
            case rel => exact ⟨k + 1, by omega, by go_num, HC3, HB3⟩
            case measure => simp [intOf]; omega
    · obtain rfl : k = n := by omega
      have HBB := hide HB.out
      clear HC HB
      go_wp2
      go_ret
      exact ⟨rfl, HBB.out⟩

set_option maxRecDepth 100000 in
theorem each_none (w : World) (A : Option Addr) (c : Nat) :
    Calls Try.prog 4 #[.slice A 0 c] w fun e w' => e = .returned (.bool true) ∧ Below w.heap.size w w' := by
  go_enter Try.func4, Try.ntmps4
  go_wp2_with fail
  refine (awake_any _).mono ?_
  rintro e w1 ⟨rfl, hb1⟩
  go_wp2_with fail
  refine (new_any 16384 _).mono ?_
  rintro e wn ⟨rfl, _, hbn⟩
  have hbwn := hb1.trans (hbn.mono hb1.size)
  clear hb1 hbn
  go_wp2
  refine wp_loop_rounds 1 ?_
  rw [rounds_succ]
  go_wp2
  go_ret
  exact ⟨rfl, hbwn⟩

theorem each_walk (w : World) (A : Option Addr) (n c : Nat) (xs : List Value) (L : List (List UInt8)) (hc : n ≤ c) (hm : c ≤ maxLen) (hL : L.length = n) (h : Has w w.heap.size 1 A n xs) (hE : Els w w.heap.size xs L) :
    Calls Try.prog 4 #[.slice A n c] w fun e w' => e = .returned (.bool true) ∧ Below w.heap.size w w' := by
  rcases Nat.lt_or_ge 20 n with h1 | h1
  · exact each_great w A n c h1
  · rcases Nat.eq_zero_or_pos n with h0 | h0
    · subst h0
      exact each_none w A c
    · have hx := h.1
      obtain ⟨ga, oa, rfl, hga, hcl⟩ := h.lies (by omega)
      exact each_of w ga oa n c h1 xs L hc hm hL (hide hcl) hga (hide hE)


end Go.Proofs.Ytgdaangbgmmgmaa.Frame
