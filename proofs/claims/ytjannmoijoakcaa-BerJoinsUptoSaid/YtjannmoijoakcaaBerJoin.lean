/-
  'BerJoins': fields that are laid one behind the other are listed as they were laid.
-/
import Derived.Test.YtjannmoijoakcaaBerJoinMath
import Derived.Test.YtjannmoijoakcaaBerBack
namespace Go.Proofs.Ytjannmoijoakcaa.Ber
open Go.RowKit
set_option linter.unusedSimpArgs false
set_option linter.unusedVariables false

theorem len5 (w : World) : Calls Try.prog 13 #[.int .i64 5] w fun e w' => ∃ v, e = .returned v ∧ w'.ownsRow w.heap.size 5 1 v 1 (bys [5]) ∧ Below w.heap.size w w' := len_any 5 w

theorem Els.take {w : World} {B : Nat} {xs : List Value} {L : List (List UInt8)} (h : Els w B xs L) (k : Nat) : Els w B (xs.take k) (L.take k) := fun i l hl => by
  rw [List.getElem?_take] at hl
  split at hl
  · rename_i hi
    obtain ⟨A, c, e, hH⟩ := h i l hl
    exact ⟨A, c, by rw [List.getElem?_take, if_pos hi]; exact e, hH⟩
  · cases hl

set_option maxRecDepth 100000 in
set_option maxHeartbeats 6400000 in
theorem joins_of (w : World) (A B : Option Addr) (n c m d : Nat) (xs : List Value) (L : List (List UInt8)) (G : List UInt8)
    (hO : Hid (Has w w.heap.size 1 A n xs)) (hE : Hid (Els w w.heap.size xs L)) (hG : Hid (Has w w.heap.size 1 B m (bys G))) (hL : Hid (L.length = n)) (hGm : Hid (G.length = m)) (hxn : Hid (xs.length = n))
    (hc : n ≤ c) (hcm : c ≤ maxLen) (hd : m ≤ d) (hdm : d ≤ maxLen) (hn : n ≤ 1048576) (hm : m ≤ 1048576) (htot : Hid (total L ≤ 1048576)) :
    Calls Try.prog 12 #[.slice A n c, .slice B m d] w fun e w' => e = .returned (.bool true) ∧ Below w.heap.size w w' := by
  unfold maxLen at hcm hdm
  go_enter Try.func12, Try.ntmps12
  go_wp2
  go_loopw [5, 6, 7, 14] (fun av tv cv i wr => ∃ k : Nat, k ≤ n ∧ k ≤ m ∧ i = .int .i64 k ∧ Hid (Three wr w.heap.size av tv cv (fieldsOf (G.take k) (L.take k)) (G.take k) (xs.take k)) ∧ Hid (∀ t ∈ G.take k, t.toNat % 32 ≠ 31) ∧ Below w.heap.size w wr)
    (fun _ _ _ i _ => m - (intOf i).toNat)
  case atStart => exact ⟨0, Nat.zero_le _, Nat.zero_le _, rfl, hide (by simpa [fieldsOf] using Three.start w w.heap.size), hide (by simp), Below.refl _ _⟩
  case round =>
    obtain ⟨k, hkn, hkm, rfl, HK, HT, hbr⟩ := hrel
    by_cases hlt : k < m
    · by_cases hln : k < n
      · obtain ⟨t, ht⟩ : ∃ t, G[k]? = some t := ⟨_, List.getElem?_eq_getElem (by rw [hGm.out]; exact hlt)⟩
        obtain ⟨l, hl⟩ : ∃ l, L[k]? = some l := ⟨_, List.getElem?_eq_getElem (by rw [hL.out]; exact hln)⟩
        obtain ⟨A1, c1, ex, hel⟩ := hE.out k l hl
        obtain ⟨go, oo, rfl, hgo, co⟩ := hO.out.lies (by rw [hxn.out]; omega)
        obtain ⟨gt, ot, rfl, hgt, ct⟩ := hG.out.lies (by rw [bys_length, hGm.out]; omega)
        have qo := co k _ ex
        have qt0 := ct k (c8 t) (by simp [bys, ht])
        obtain ⟨x, hx⟩ : ∃ x : Nat, x = t.toNat := ⟨_, rfl⟩
        have qt : w.cell? ⟨gt, ot + k, none⟩ = some (.int .u8 (x : Int)) := by rw [hx]; exact qt0
        clear co ct qt0
        have h31 := and_31 x (by rw [hx]; exact t.toNat_lt)
        have r1 : wr.cell? ⟨gt, ot + k, none⟩ = some (.int .u8 (x : Int)) := (Below.cell (p := ⟨gt, ot + k, none⟩) hbr hgt).trans qt
        have hki : (k : Int) < (m : Int) := by omega
        have hkj : (k : Int) < (n : Int) := by omega
        have hnk : ¬ (n : Int) ≤ (k : Int) := by omega
        by_cases h3 : x % 32 = 31
        · have hq : (bits .and .u8 (x : Int) 31 == 31) = true := by rw [h31, h3]; rfl
          clear h31 ht hl hel ex hx qo qt
          have KR := HK.out
          have hlF := fieldsOf_le (G.take k) (L.take k) (by rw [List.length_take, List.length_take, hL.out, hGm.out]; omega)
          have hlT := total_take L k
          have htt := htot.out
          have hgT : (G.take k).length ≤ k := by simp; omega
          have hlG := listGo_fields (G.take k) (L.take k) (fieldsOf (G.take k) (L.take k)).length [] [] (by rw [List.length_take, List.length_take, hL.out, hGm.out]; omega) HT.out (fun y hy => by have := total_mem (List.mem_of_mem_take hy); omega) (fieldsOf_ge _ _ (by rw [List.length_take, List.length_take, hL.out, hGm.out]; omega))
          rw [List.nil_append, List.nil_append] at hlG
          have hEr := (hE.out.below hbr).take k
          have hxl : (xs.take k).length = (L.take k).length := by rw [List.length_take, List.length_take, hL.out, hxn.out]
          obtain ⟨F0, hF0⟩ : ∃ F0, F0 = fieldsOf (G.take k) (L.take k) := ⟨_, rfl⟩
          obtain ⟨T0, hT0⟩ : ∃ T0, T0 = G.take k := ⟨_, rfl⟩
          obtain ⟨X0, hX0⟩ : ∃ X0, X0 = xs.take k := ⟨_, rfl⟩
          obtain ⟨L0, hL0⟩ : ∃ L0, L0 = L.take k := ⟨_, rfl⟩
          rw [← hF0] at KR hlF hlG
          rw [← hT0] at KR hlF hlG hgT
          rw [← hX0] at KR hEr hxl
          rw [← hL0] at hlF hlT hlG hEr hxl
          clear hF0 hT0 hX0 hL0
          have hoX := KR.outer
          rw [hxl] at hoX
          obtain ⟨Aa, ca, rfl, hca, hcam, hHa⟩ := own_form' KR.all
          obtain ⟨At, ct, rfl, _, _, hHt⟩ := own_form' KR.tags
          obtain ⟨Ac, cc, rfl, hcc, hccm, hHc⟩ := own_form' hoX
          have HLI := hide (list_of wr Aa F0.length ca F0 (T0, L0, 0) hHa hca hcam (Nat.le_refl _) (by omega) (hide hlG))
          have HEr := hide hEr
          have HHt := hide hHt
          have HHc := hide hHc
          clear KR hlF hlG hEr hxl hoX hHa hca hcam HK HT hHt hHc htot hO hE hG hL hGm hxn
          go_wp2_with fail
          refine HLI.out.mono ?_
          rintro e z1 ⟨tv, cv, ys, rfl, KK, hz1⟩
          obtain ⟨D1, d1, D2, d2, rfl, rfl, p1, p2, p3, p4, p5⟩ := KK.reads
          have t1 := txt8 z1 d1 p1
          have t2 := txt8 z1 ct (HHt.out.below hz1)
          have HS := hide (same_any z1 z1.heap.size D2 Ac L0.length d2 cc ys X0 L0 p2 ((HHc.out.below hz1).upto hz1.size) p4 hcc p5 hccm rfl p3 (HEr.out.below hz1))
          have hbz1 := hbr.trans (hz1.mono hbr.size)
          clear KK HLI p1 p2 p3 p4 p5 HHt HHc HEr hz1 hcc hccm
          go_wp2_with fail
          refine HS.out.mono ?_
          rintro e z2 ⟨rfl, hz2⟩
          have hbz2 := hbz1.trans (hz2.mono hbz1.size)
          clear HS hz2
          go_wp2_with fail
          refine (len5 z2).mono ?_
          rintro e z3 ⟨v5, rfl, ho5, hz3⟩
          obtain ⟨D5, d5, rfl, _, _, _⟩ := own_form' ho5
          have hbz3 := hbz2.trans (hz3.mono hbz2.size)
          clear ho5 hz3
          go_wp2
          go_ret
          exact ⟨rfl, hbz3⟩
        · have hq : (bits .and .u8 (x : Int) 31 == 31) = false := by
            rw [h31, beq_eq_false_iff_ne]
            omega
          clear h31
          have hll := total_mem (List.mem_of_getElem? hl)
          have htt := htot.out
          have HF : Hid (∀ W, Below w.heap.size w W → FD W (x : Int) A1 l.length c1 (fieldOf t l)) := hide fun W hW => by
            rw [hx]
            exact FD.of W t A1 l.length c1 l ((hel.below hW).upto hW.size) (by omega)
          have HB : Hid (bys [t] = [.int .u8 (x : Int)]) := hide (by rw [hx]; rfl)
          have HeT : Hid (G.take (k + 1) = G.take k ++ [t]) := hide (by rw [List.take_add_one, ht]; rfl)
          have HeX : Hid (xs.take (k + 1) = xs.take k ++ [.slice A1 l.length c1]) := hide (by rw [List.take_add_one, ex]; rfl)
          have HeF : Hid (fieldsOf (G.take (k + 1)) (L.take (k + 1)) = fieldsOf (G.take k) (L.take k) ++ fieldOf t l) := hide (by
            rw [HeT.out, show L.take (k + 1) = L.take k ++ [l] by rw [List.take_add_one, hl]; rfl]
            exact fieldsOf_snoc t l _ _ (by rw [List.length_take, List.length_take, hL.out, hGm.out]; omega))
          have HTn : Hid (∀ y ∈ G.take k ++ [t], y.toNat % 32 ≠ 31) := hide (fun y hy => by
            rcases List.mem_append.1 hy with e | e
            · exact HT.out y e
            · rw [List.mem_singleton.1 e, ← hx]
              exact h3)
          have hlF := fieldsOf_le (G.take k) (L.take k) (by rw [List.length_take, List.length_take, hL.out, hGm.out]; omega)
          have hlT := total_take L k
          have hgT : (G.take k).length ≤ k := by simp; omega
          have hxT : (xs.take k).length ≤ k := by simp; omega
          have hf1 := fieldOf_length t l
          have hf2 := lenOf_le (l.length : Int)
          obtain ⟨F0, hF0⟩ : ∃ F0, F0 = fieldsOf (G.take k) (L.take k) := ⟨_, rfl⟩
          obtain ⟨F1, hF1⟩ : ∃ F1, F1 = fieldOf t l := ⟨_, rfl⟩
          obtain ⟨T0, hT0⟩ : ∃ T0, T0 = G.take k := ⟨_, rfl⟩
          obtain ⟨X0, hX0⟩ : ∃ X0, X0 = xs.take k := ⟨_, rfl⟩
          obtain ⟨ln, hln2⟩ : ∃ ln, ln = l.length := ⟨_, rfl⟩
          rw [← hF0] at hlF HeF HK
          rw [← hT0] at HeT HTn hgT HK hlF
          rw [← hX0] at HeX hxT HK
          rw [← hF1] at HF HeF hf1
          rw [← hln2] at qo HF HeX
          have hF0l : F0.length ≤ 7340032 := by omega
          have hF1l : F1.length ≤ 1048582 := by omega
          clear hx ht hl ex hel hll htt hlF hlT hf1 hf2 hF0 hF1 hT0 hX0 hln2 HT htot hO hE hG hL hGm hxn
          go_wp2_with fail
          refine grow_begin_at w.heap.size (by kernel_rfl) ?_
          have hbww1 : Below w.heap.size w wr.drew := hbr.trans ((Below.refl _ _).drew)
          have K1 := hide (HK.out.below (Below.refl wr.heap.size wr).drew)
          have hsw1 := hbww1.size
          clear HK
          generalize wr.drew = w1 at *
          refine grow_take 0 (some 29) (v := ?va0) rfl rfl (by kernel_rfl) (by kernel_rfl) (by kernel_rfl) (fun _ _ _ h => h) (by rfl) (fun W hW => ?ya0) ?_
          case ya0 =>
            go_simp <;> with_reducible rfl
          simp only [Act.put, List.setIfInBounds_toArray, List.set_cons_zero, List.set_cons_succ]
          refine grow_take 1 (some 30) (v := ?va1) rfl rfl (by kernel_rfl) (by kernel_rfl) (by kernel_rfl) (fun _ _ _ h => h) (by rfl) (fun W hW => ?ya1) ?_
          case ya1 =>
            go_simp <;> with_reducible rfl
          simp only [Act.put, List.setIfInBounds_toArray, List.set_cons_zero, List.set_cons_succ]
          refine grow_take 2 (some 31) (v := ?va2) rfl rfl (by kernel_rfl) (by kernel_rfl) (by kernel_rfl) (fun _ _ _ h => h) (by rfl) (fun W hW => ?ya2) ?_
          case ya2 =>
            go_simp <;> with_reducible rfl
          simp only [Act.put, List.setIfInBounds_toArray, List.set_cons_zero, List.set_cons_succ]
          refine grow_take 3 (some 32) (v := ?va3) rfl rfl (by kernel_rfl) (by kernel_rfl) (by kernel_rfl) (fun _ _ _ h => h) (by rfl) (fun W hW => ?ya3) ?_
          case ya3 =>
            go_simp <;> with_reducible rfl
          simp only [Act.put, List.setIfInBounds_toArray, List.set_cons_zero, List.set_cons_succ]
          refine grow_take 4 (some 33) (v := ?va4) rfl rfl (by kernel_rfl) (by kernel_rfl) (by kernel_rfl) (fun _ _ _ h => h) (by rfl) (fun W hW => ?ya4) ?_
          case ya4 =>
            have h1 : W.cell? ⟨gt, ot + k, none⟩ = some (.int .u8 (x : Int)) := (Below.cell (p := ⟨gt, ot + k, none⟩) (hbww1.trans hW) hgt).trans qt
            go_simp <;> with_reducible rfl
          simp only [Act.put, List.setIfInBounds_toArray, List.set_cons_zero, List.set_cons_succ]
          refine grow_take 5 (some 34) (v := ?va5) rfl rfl (by kernel_rfl) (by kernel_rfl) (by kernel_rfl) (fun _ _ _ h => h) (by rfl) (fun W hW => ?ya5) ?_
          case ya5 =>
            go_simp <;> with_reducible rfl
          simp only [Act.put, List.setIfInBounds_toArray, List.set_cons_zero, List.set_cons_succ]
          refine grow_take 6 (some 35) (v := ?va6) rfl rfl (by kernel_rfl) (by kernel_rfl) (by kernel_rfl) (fun _ _ _ h => h) (by rfl) (fun W hW => ?ya6) ?_
          case ya6 =>
            go_simp <;> with_reducible rfl
          simp only [Act.put, List.setIfInBounds_toArray, List.set_cons_zero, List.set_cons_succ]
          refine grow_take 7 (some 36) (v := ?va7) rfl rfl (by kernel_rfl) (by kernel_rfl) (by kernel_rfl) (fun _ _ _ h => h) (by rfl) (fun W hW => ?ya7) ?_
          case ya7 =>
            go_simp <;> with_reducible rfl
          simp only [Act.put, List.setIfInBounds_toArray, List.set_cons_zero, List.set_cons_succ]
          refine grow_take 8 (some 37) (v := ?va8) rfl rfl (by kernel_rfl) (by kernel_rfl) (by kernel_rfl) (fun _ _ _ h => h) (by rfl) (fun W hW => ?ya8) ?_
          case ya8 =>
            have h1 : W.cell? ⟨go, oo + k, none⟩ = some (.slice A1 ln c1) := (Below.cell (p := ⟨go, oo + k, none⟩) (hbww1.trans hW) hgo).trans qo
            go_simp <;> with_reducible rfl
          simp only [Act.put, List.setIfInBounds_toArray, List.set_cons_zero, List.set_cons_succ]
          refine grow_only 9 rfl (by kernel_rfl) (fun K hK => ?_)
          go_simp
          have hf := HF.out w1 hbww1
          unfold FD at hf
          refine hf.mono ?_
          rintro e w2 ⟨A2, c2, rfl, hc2, hm2, hH2, hb2⟩
          clear hf
          have hb12 := hb2.mono hsw1
          have K2 := K1.out.below hb2
          clear K1
          have hbww2 := hbww1.trans hb12
          have hsw2 := hbww2.size
          refine hK.out _ _ hb12 ?_
          clear hK K
          try simp only [Act.put, List.setIfInBounds_toArray, List.set_cons_zero, List.set_cons_succ]
          refine grow_only 10 rfl (by kernel_rfl) (fun K hK => ?_)
          refine step8 w2 (some 39) rfl rfl (.tmp 29) (.tmp 38) rfl w.heap.size _ F0.length F0 rfl K2.all _ _ F1.length c2 F1 rfl hH2 (by omega) hsw2 ?_
          intro v3 w3 ho3 hb3 hat3 hg3
          have K3 := K2.more F1 ho3 hat3 hg3
          have hbww3 := hbww2.trans hb3
          have hsw3 := hbww3.size
          clear ho3 hat3 hg3 K2 hH2
          refine hK.out _ _ hb3 ?_
          clear hK K
          try simp only [Act.put, List.setIfInBounds_toArray, List.set_cons_zero, List.set_cons_succ]
          refine grow_take 11 (some 5) (v := ?va11) rfl rfl (by kernel_rfl) (by kernel_rfl) (by kernel_rfl) (fun _ _ _ h => h) (by rfl) (fun W hW => ?ya11) ?_
          case ya11 =>
            go_simp <;> with_reducible rfl
          simp only [Act.put, List.setIfInBounds_toArray, List.set_cons_zero, List.set_cons_succ]
          refine grow_done (by kernel_rfl) ?_ _
          go_wp2_with fail
          refine grow_begin_at w.heap.size (by kernel_rfl) ?_
          have hbwwa4 : Below w.heap.size w w3.drew := hbww3.trans ((Below.refl _ _).drew)
          have Ka4 := hide (K3.below (Below.refl w3.heap.size w3).drew)
          have hswa4 := hbwwa4.size
          clear K3
          generalize w3.drew = a4 at *
          refine grow_take 0 (some 40) (v := ?vb0) rfl rfl (by kernel_rfl) (by kernel_rfl) (by kernel_rfl) (fun _ _ _ h => h) (by rfl) (fun W hW => ?yb0) ?_
          case yb0 =>
            go_simp <;> with_reducible rfl
          simp only [Act.put, List.setIfInBounds_toArray, List.set_cons_zero, List.set_cons_succ]
          refine grow_take 1 (some 41) (v := ?vb1) rfl rfl (by kernel_rfl) (by kernel_rfl) (by kernel_rfl) (fun _ _ _ h => h) (by rfl) (fun W hW => ?yb1) ?_
          case yb1 =>
            go_simp <;> with_reducible rfl
          simp only [Act.put, List.setIfInBounds_toArray, List.set_cons_zero, List.set_cons_succ]
          refine grow_take 2 (some 42) (v := ?vb2) rfl rfl (by kernel_rfl) (by kernel_rfl) (by kernel_rfl) (fun _ _ _ h => h) (by rfl) (fun W hW => ?yb2) ?_
          case yb2 =>
            go_simp <;> with_reducible rfl
          simp only [Act.put, List.setIfInBounds_toArray, List.set_cons_zero, List.set_cons_succ]
          refine grow_take 3 (some 43) (v := ?vb3) rfl rfl (by kernel_rfl) (by kernel_rfl) (by kernel_rfl) (fun _ _ _ h => h) (by rfl) (fun W hW => ?yb3) ?_
          case yb3 =>
            go_simp <;> with_reducible rfl
          simp only [Act.put, List.setIfInBounds_toArray, List.set_cons_zero, List.set_cons_succ]
          refine grow_take 4 (some 44) (v := ?vb4) rfl rfl (by kernel_rfl) (by kernel_rfl) (by kernel_rfl) (fun _ _ _ h => h) (by rfl) (fun W hW => ?yb4) ?_
          case yb4 =>
            have h1 : W.cell? ⟨gt, ot + k, none⟩ = some (.int .u8 (x : Int)) := (Below.cell (p := ⟨gt, ot + k, none⟩) (hbwwa4.trans hW) hgt).trans qt
            go_simp <;> with_reducible rfl
          simp only [Act.put, List.setIfInBounds_toArray, List.set_cons_zero, List.set_cons_succ]
          refine grow_take 7 (some 47) (v := ?vb7) rfl rfl (by kernel_rfl) (by kernel_rfl) (by kernel_rfl) (fun _ _ _ h => h) (by rfl) (fun W hW => ?yb7) ?_
          case yb7 =>
            go_simp <;> with_reducible rfl
          simp only [Act.put, List.setIfInBounds_toArray, List.set_cons_zero, List.set_cons_succ]
          refine grow_take 8 (some 48) (v := ?vb8) rfl rfl (by kernel_rfl) (by kernel_rfl) (by kernel_rfl) (fun _ _ _ h => h) (by rfl) (fun W hW => ?yb8) ?_
          case yb8 =>
            go_simp <;> with_reducible rfl
          simp only [Act.put, List.setIfInBounds_toArray, List.set_cons_zero, List.set_cons_succ]
          refine grow_take 9 (some 49) (v := ?vb9) rfl rfl (by kernel_rfl) (by kernel_rfl) (by kernel_rfl) (fun _ _ _ h => h) (by rfl) (fun W hW => ?yb9) ?_
          case yb9 =>
            go_simp <;> with_reducible rfl
          simp only [Act.put, List.setIfInBounds_toArray, List.set_cons_zero, List.set_cons_succ]
          refine grow_take 10 (some 50) (v := ?vb10) rfl rfl (by kernel_rfl) (by kernel_rfl) (by kernel_rfl) (fun _ _ _ h => h) (by rfl) (fun W hW => ?yb10) ?_
          case yb10 =>
            go_simp <;> with_reducible rfl
          simp only [Act.put, List.setIfInBounds_toArray, List.set_cons_zero, List.set_cons_succ]
          refine grow_take 11 (some 51) (v := ?vb11) rfl rfl (by kernel_rfl) (by kernel_rfl) (by kernel_rfl) (fun _ _ _ h => h) (by rfl) (fun W hW => ?yb11) ?_
          case yb11 =>
            have h1 : W.cell? ⟨go, oo + k, none⟩ = some (.slice A1 ln c1) := (Below.cell (p := ⟨go, oo + k, none⟩) (hbwwa4.trans hW) hgo).trans qo
            go_simp <;> with_reducible rfl
          simp only [Act.put, List.setIfInBounds_toArray, List.set_cons_zero, List.set_cons_succ]
          refine grow_each [5, 12] (by kernel_rfl) (by simp) ?_
          refine AllG.cons rfl (fun K hK => ?_) (AllG.cons rfl (fun K hK => ?_) AllG.nil)
          · go_simp
            have hba5 : Below w.heap.size a4 (a4.alloc (.cells #[.int .u8 (x : Int)] 5)) := (Below.refl _ _).alloc hswa4 _
            have hba : Below a4.heap.size a4 (a4.alloc (.cells #[.int .u8 (x : Int)] 5)) := (Below.refl _ _).alloc (Nat.le_refl _) _
            have Ka5 := hide (Ka4.out.below hba)
            have ho45 : (a4.alloc (.cells #[.int .u8 (x : Int)] 5)).ownsRow a4.heap.size 5 1 (.slice (some ⟨a4.heap.size, 0, none⟩) 1 1) 1 (bys [t]) := by rw [HB.out]; exact own_lit a4 #[.int .u8 (x : Int)] 5 1 (by unfold maxLen; omega) rfl
            clear hba
            clear Ka4
            have hbwwa5 := hbwwa4.trans hba5
            have hswa5 := hbwwa5.size
            refine hK.out _ _ hba5 ?_
            clear hK K hba5
            generalize a4.alloc (.cells #[.int .u8 (x : Int)] 5) = a5 at *
            try simp only [Act.put, List.setIfInBounds_toArray, List.set_cons_zero, List.set_cons_succ]
            refine grow_each [6, 12] (by kernel_rfl) (by simp) ?_
            refine AllG.cons rfl (fun K hK => ?_) (AllG.cons rfl (fun K hK => ?_) AllG.nil)
            · have hH45 := Has.own ho45
              refine step8 a5 (some 46) rfl rfl (.tmp 40) (.tmp 45) rfl w.heap.size _ T0.length T0 rfl Ka5.out.tags _ _ 1 1 [t] rfl hH45 (by omega) hswa5 ?_
              intro v6 a6 ho6 hba6 hat6 hg6
              have Ka6 := hide (Ka5.out.tag t ho6 hat6 hg6)
              clear ho6 hat6 hg6 hH45 ho45
              clear Ka5
              have hbwwa6 := hbwwa5.trans hba6
              have hswa6 := hbwwa6.size
              refine hK.out _ _ hba6 ?_
              clear hK K hba6
              try simp only [Act.put, List.setIfInBounds_toArray, List.set_cons_zero, List.set_cons_succ]
              refine grow_only 12 rfl (by kernel_rfl) (fun K hK => ?_)
              go_simp
              have hba7 : Below w.heap.size a6 (a6.alloc (.cells #[.slice A1 ln c1] 22)) := (Below.refl _ _).alloc hswa6 _
              have hba : Below a6.heap.size a6 (a6.alloc (.cells #[.slice A1 ln c1] 22)) := (Below.refl _ _).alloc (Nat.le_refl _) _
              have Ka7 := hide (Ka6.out.below hba)
              have ho52 : (a6.alloc (.cells #[.slice A1 ln c1] 22)).ownsRow a6.heap.size 22 1 (.slice (some ⟨a6.heap.size, 0, none⟩) 1 1) 1 [.slice A1 ln c1] := own_lit a6 #[.slice A1 ln c1] 22 1 (by unfold maxLen; omega) rfl
              clear hba
              clear Ka6
              have hbwwa7 := hbwwa6.trans hba7
              have hswa7 := hbwwa7.size
              refine hK.out _ _ hba7 ?_
              clear hK K hba7
              generalize a6.alloc (.cells #[.slice A1 ln c1] 22) = a7 at *
              try simp only [Act.put, List.setIfInBounds_toArray, List.set_cons_zero, List.set_cons_succ]
              refine grow_only 13 rfl (by kernel_rfl) (fun K hK => ?_)
              have hH52 := Has.own ho52
              refine step22 a7 (some 53) rfl rfl (.tmp 47) (.tmp 52) rfl w.heap.size _ X0.length X0 rfl Ka7.out.outer _ _ 1 1 [.slice A1 ln c1] rfl hH52 (by simp [Value.oneCell']) (by omega) hswa7 ?_
              intro v7 a8 ho7 hba8 hat7 hg7
              have Ka8 := hide (Ka7.out.con (.slice A1 ln c1) ho7 hat7 hg7)
              clear ho7 hat7 hg7 hH52 ho52
              clear Ka7
              have hbwwa8 := hbwwa7.trans hba8
              have hswa8 := hbwwa8.size
              refine hK.out _ _ hba8 ?_
              clear hK K hba8
              try simp only [Act.put, List.setIfInBounds_toArray, List.set_cons_zero, List.set_cons_succ]
              refine grow_take 14 (some 6) (v := ?vbc14) rfl rfl (by kernel_rfl) (by kernel_rfl) (by kernel_rfl) (fun _ _ _ h => h) (by rfl) (fun W hW => ?ybc14) ?_
              case ybc14 =>
                go_simp <;> with_reducible rfl
              simp only [Act.put, List.setIfInBounds_toArray, List.set_cons_zero, List.set_cons_succ]
              refine grow_take 15 (some 7) (v := ?vbc15) rfl rfl (by kernel_rfl) (by kernel_rfl) (by kernel_rfl) (fun _ _ _ h => h) (by rfl) (fun W hW => ?ybc15) ?_
              case ybc15 =>
                go_simp <;> with_reducible rfl
              simp only [Act.put, List.setIfInBounds_toArray, List.set_cons_zero, List.set_cons_succ]
              refine grow_done (by kernel_rfl) ?_ _
              go_wp2
              go_roundw
              case rel => exact ⟨k + 1, by omega, by omega, by go_num, hide (by rw [HeF.out, HeT.out, HeX.out]; exact Ka8.out), hide (by rw [HeT.out]; exact HTn.out), hbwwa8⟩
              case measure => simp [intOf]; omega
            · go_simp
              have hba6 : Below w.heap.size a5 (a5.alloc (.cells #[.slice A1 ln c1] 22)) := (Below.refl _ _).alloc hswa5 _
              have hba : Below a5.heap.size a5 (a5.alloc (.cells #[.slice A1 ln c1] 22)) := (Below.refl _ _).alloc (Nat.le_refl _) _
              have hne : (Value.slice (some ⟨a5.heap.size, 0, none⟩) 1 1).ownBlock ≠ u6.ownBlock := fun e => Nat.lt_irrefl _ (Ka5.out.tags.lt a5.heap.size (e.symm.trans rfl)).2
              have Ka6 := hide (Ka5.out.below hba)
              have ho52 : (a5.alloc (.cells #[.slice A1 ln c1] 22)).ownsRow a5.heap.size 22 1 (.slice (some ⟨a5.heap.size, 0, none⟩) 1 1) 1 [.slice A1 ln c1] := own_lit a5 #[.slice A1 ln c1] 22 1 (by unfold maxLen; omega) rfl
              have ho45b := own_below ho45 hba
              clear ho45
              have ho45 := ho45b
              clear ho45b
              clear hba
              clear Ka5
              have hbwwa6 := hbwwa5.trans hba6
              have hswa6 := hbwwa6.size
              refine hK.out _ _ hba6 ?_
              clear hK K hba6
              generalize a5.alloc (.cells #[.slice A1 ln c1] 22) = a6 at *
              try simp only [Act.put, List.setIfInBounds_toArray, List.set_cons_zero, List.set_cons_succ]
              refine grow_only 6 rfl (by kernel_rfl) (fun K hK => ?_)
              have hH45 := Has.own ho45
              refine step8 a6 (some 46) rfl rfl (.tmp 40) (.tmp 45) rfl w.heap.size _ T0.length T0 rfl Ka6.out.tags _ _ 1 1 [t] rfl hH45 (by omega) hswa6 ?_
              intro v6 a7 ho6 hba7 hat6 hg6
              have Ka7 := hide (Ka6.out.tag t ho6 hat6 hg6)
              have ho52b := ho52.kept hg6 (.inr hne)
              clear ho52 hne
              have ho52 := ho52b
              clear ho52b
              clear ho6 hat6 hg6 hH45 ho45
              clear Ka6
              have hbwwa7 := hbwwa6.trans hba7
              have hswa7 := hbwwa7.size
              refine hK.out _ _ hba7 ?_
              clear hK K hba7
              try simp only [Act.put, List.setIfInBounds_toArray, List.set_cons_zero, List.set_cons_succ]
              refine grow_only 13 rfl (by kernel_rfl) (fun K hK => ?_)
              have hH52 := Has.own ho52
              refine step22 a7 (some 53) rfl rfl (.tmp 47) (.tmp 52) rfl w.heap.size _ X0.length X0 rfl Ka7.out.outer _ _ 1 1 [.slice A1 ln c1] rfl hH52 (by simp [Value.oneCell']) (by omega) hswa7 ?_
              intro v7 a8 ho7 hba8 hat7 hg7
              have Ka8 := hide (Ka7.out.con (.slice A1 ln c1) ho7 hat7 hg7)
              clear ho7 hat7 hg7 hH52 ho52
              clear Ka7
              have hbwwa8 := hbwwa7.trans hba8
              have hswa8 := hbwwa8.size
              refine hK.out _ _ hba8 ?_
              clear hK K hba8
              try simp only [Act.put, List.setIfInBounds_toArray, List.set_cons_zero, List.set_cons_succ]
              refine grow_take 14 (some 6) (v := ?vbd14) rfl rfl (by kernel_rfl) (by kernel_rfl) (by kernel_rfl) (fun _ _ _ h => h) (by rfl) (fun W hW => ?ybd14) ?_
              case ybd14 =>
                go_simp <;> with_reducible rfl
              simp only [Act.put, List.setIfInBounds_toArray, List.set_cons_zero, List.set_cons_succ]
              refine grow_take 15 (some 7) (v := ?vbd15) rfl rfl (by kernel_rfl) (by kernel_rfl) (by kernel_rfl) (fun _ _ _ h => h) (by rfl) (fun W hW => ?ybd15) ?_
              case ybd15 =>
                go_simp <;> with_reducible rfl
              simp only [Act.put, List.setIfInBounds_toArray, List.set_cons_zero, List.set_cons_succ]
              refine grow_done (by kernel_rfl) ?_ _
              go_wp2
              go_roundw
              case rel => exact ⟨k + 1, by omega, by omega, by go_num, hide (by rw [HeF.out, HeT.out, HeX.out]; exact Ka8.out), hide (by rw [HeT.out]; exact HTn.out), hbwwa8⟩
              case measure => simp [intOf]; omega
          · go_simp
            have hba5 : Below w.heap.size a4 (a4.alloc (.cells #[.slice A1 ln c1] 22)) := (Below.refl _ _).alloc hswa4 _
            have hba : Below a4.heap.size a4 (a4.alloc (.cells #[.slice A1 ln c1] 22)) := (Below.refl _ _).alloc (Nat.le_refl _) _
            have hne : (Value.slice (some ⟨a4.heap.size, 0, none⟩) 1 1).ownBlock ≠ u6.ownBlock := fun e => Nat.lt_irrefl _ (Ka4.out.tags.lt a4.heap.size (e.symm.trans rfl)).2
            have Ka5 := hide (Ka4.out.below hba)
            have ho52 : (a4.alloc (.cells #[.slice A1 ln c1] 22)).ownsRow a4.heap.size 22 1 (.slice (some ⟨a4.heap.size, 0, none⟩) 1 1) 1 [.slice A1 ln c1] := own_lit a4 #[.slice A1 ln c1] 22 1 (by unfold maxLen; omega) rfl
            clear hba
            clear Ka4
            have hbwwa5 := hbwwa4.trans hba5
            have hswa5 := hbwwa5.size
            refine hK.out _ _ hba5 ?_
            clear hK K hba5
            generalize a4.alloc (.cells #[.slice A1 ln c1] 22) = a5 at *
            try simp only [Act.put, List.setIfInBounds_toArray, List.set_cons_zero, List.set_cons_succ]
            refine grow_only 5 rfl (by kernel_rfl) (fun K hK => ?_)
            go_simp
            have hba6 : Below w.heap.size a5 (a5.alloc (.cells #[.int .u8 (x : Int)] 5)) := (Below.refl _ _).alloc hswa5 _
            have hba : Below a5.heap.size a5 (a5.alloc (.cells #[.int .u8 (x : Int)] 5)) := (Below.refl _ _).alloc (Nat.le_refl _) _
            have Ka6 := hide (Ka5.out.below hba)
            have ho45 : (a5.alloc (.cells #[.int .u8 (x : Int)] 5)).ownsRow a5.heap.size 5 1 (.slice (some ⟨a5.heap.size, 0, none⟩) 1 1) 1 (bys [t]) := by rw [HB.out]; exact own_lit a5 #[.int .u8 (x : Int)] 5 1 (by unfold maxLen; omega) rfl
            have ho52b := own_below ho52 hba
            clear ho52
            have ho52 := ho52b
            clear ho52b
            clear hba
            clear Ka5
            have hbwwa6 := hbwwa5.trans hba6
            have hswa6 := hbwwa6.size
            refine hK.out _ _ hba6 ?_
            clear hK K hba6
            generalize a5.alloc (.cells #[.int .u8 (x : Int)] 5) = a6 at *
            try simp only [Act.put, List.setIfInBounds_toArray, List.set_cons_zero, List.set_cons_succ]
            refine grow_only 6 rfl (by kernel_rfl) (fun K hK => ?_)
            have hH45 := Has.own ho45
            refine step8 a6 (some 46) rfl rfl (.tmp 40) (.tmp 45) rfl w.heap.size _ T0.length T0 rfl Ka6.out.tags _ _ 1 1 [t] rfl hH45 (by omega) hswa6 ?_
            intro v6 a7 ho6 hba7 hat6 hg6
            have Ka7 := hide (Ka6.out.tag t ho6 hat6 hg6)
            have ho52b := ho52.kept hg6 (.inr hne)
            clear ho52 hne
            have ho52 := ho52b
            clear ho52b
            clear ho6 hat6 hg6 hH45 ho45
            clear Ka6
            have hbwwa7 := hbwwa6.trans hba7
            have hswa7 := hbwwa7.size
            refine hK.out _ _ hba7 ?_
            clear hK K hba7
            try simp only [Act.put, List.setIfInBounds_toArray, List.set_cons_zero, List.set_cons_succ]
            refine grow_only 13 rfl (by kernel_rfl) (fun K hK => ?_)
            have hH52 := Has.own ho52
            refine step22 a7 (some 53) rfl rfl (.tmp 47) (.tmp 52) rfl w.heap.size _ X0.length X0 rfl Ka7.out.outer _ _ 1 1 [.slice A1 ln c1] rfl hH52 (by simp [Value.oneCell']) (by omega) hswa7 ?_
            intro v7 a8 ho7 hba8 hat7 hg7
            have Ka8 := hide (Ka7.out.con (.slice A1 ln c1) ho7 hat7 hg7)
            clear ho7 hat7 hg7 hH52 ho52
            clear Ka7
            have hbwwa8 := hbwwa7.trans hba8
            have hswa8 := hbwwa8.size
            refine hK.out _ _ hba8 ?_
            clear hK K hba8
            try simp only [Act.put, List.setIfInBounds_toArray, List.set_cons_zero, List.set_cons_succ]
            refine grow_take 14 (some 6) (v := ?vbe14) rfl rfl (by kernel_rfl) (by kernel_rfl) (by kernel_rfl) (fun _ _ _ h => h) (by rfl) (fun W hW => ?ybe14) ?_
            case ybe14 =>
              go_simp <;> with_reducible rfl
            simp only [Act.put, List.setIfInBounds_toArray, List.set_cons_zero, List.set_cons_succ]
            refine grow_take 15 (some 7) (v := ?vbe15) rfl rfl (by kernel_rfl) (by kernel_rfl) (by kernel_rfl) (fun _ _ _ h => h) (by rfl) (fun W hW => ?ybe15) ?_
            case ybe15 =>
              go_simp <;> with_reducible rfl
            simp only [Act.put, List.setIfInBounds_toArray, List.set_cons_zero, List.set_cons_succ]
            refine grow_done (by kernel_rfl) ?_ _
            go_wp2
            go_roundw
            case rel => exact ⟨k + 1, by omega, by omega, by go_num, hide (by rw [HeF.out, HeT.out, HeX.out]; exact Ka8.out), hide (by rw [HeT.out]; exact HTn.out), hbwwa8⟩
            case measure => simp [intOf]; omega
      · have hnk : (n : Int) ≤ (k : Int) := by omega
        have hki : (k : Int) < (m : Int) := by omega
        have KR := HK.out
        have hlF := fieldsOf_le (G.take k) (L.take k) (by rw [List.length_take, List.length_take, hL.out, hGm.out]; omega)
        have hlT := total_take L k
        have htt := htot.out
        have hgT : (G.take k).length ≤ k := by simp; omega
        have hlG := listGo_fields (G.take k) (L.take k) (fieldsOf (G.take k) (L.take k)).length [] [] (by rw [List.length_take, List.length_take, hL.out, hGm.out]; omega) HT.out (fun y hy => by have := total_mem (List.mem_of_mem_take hy); omega) (fieldsOf_ge _ _ (by rw [List.length_take, List.length_take, hL.out, hGm.out]; omega))
        rw [List.nil_append, List.nil_append] at hlG
        have hEr := (hE.out.below hbr).take k
        have hxl : (xs.take k).length = (L.take k).length := by rw [List.length_take, List.length_take, hL.out, hxn.out]
        obtain ⟨F0, hF0⟩ : ∃ F0, F0 = fieldsOf (G.take k) (L.take k) := ⟨_, rfl⟩
        obtain ⟨T0, hT0⟩ : ∃ T0, T0 = G.take k := ⟨_, rfl⟩
        obtain ⟨X0, hX0⟩ : ∃ X0, X0 = xs.take k := ⟨_, rfl⟩
        obtain ⟨L0, hL0⟩ : ∃ L0, L0 = L.take k := ⟨_, rfl⟩
        rw [← hF0] at KR hlF hlG
        rw [← hT0] at KR hlF hlG hgT
        rw [← hX0] at KR hEr hxl
        rw [← hL0] at hlF hlT hlG hEr hxl
        clear hF0 hT0 hX0 hL0
        have hoX := KR.outer
        rw [hxl] at hoX
        obtain ⟨Aa, ca, rfl, hca, hcam, hHa⟩ := own_form' KR.all
        obtain ⟨At, ct, rfl, _, _, hHt⟩ := own_form' KR.tags
        obtain ⟨Ac, cc, rfl, hcc, hccm, hHc⟩ := own_form' hoX
        have HLI := hide (list_of wr Aa F0.length ca F0 (T0, L0, 0) hHa hca hcam (Nat.le_refl _) (by omega) (hide hlG))
        have HEr := hide hEr
        have HHt := hide hHt
        have HHc := hide hHc
        clear KR hlF hlG hEr hxl hoX hHa hca hcam HK HT hHt hHc htot hO hE hG hL hGm hxn
        go_wp2_with fail
        refine HLI.out.mono ?_
        rintro e z1 ⟨tv, cv, ys, rfl, KK, hz1⟩
        obtain ⟨D1, d1, D2, d2, rfl, rfl, p1, p2, p3, p4, p5⟩ := KK.reads
        have t1 := txt8 z1 d1 p1
        have t2 := txt8 z1 ct (HHt.out.below hz1)
        have HS := hide (same_any z1 z1.heap.size D2 Ac L0.length d2 cc ys X0 L0 p2 ((HHc.out.below hz1).upto hz1.size) p4 hcc p5 hccm rfl p3 (HEr.out.below hz1))
        have hbz1 := hbr.trans (hz1.mono hbr.size)
        clear KK HLI p1 p2 p3 p4 p5 HHt HHc HEr hz1 hcc hccm
        go_wp2_with fail
        refine HS.out.mono ?_
        rintro e z2 ⟨rfl, hz2⟩
        have hbz2 := hbz1.trans (hz2.mono hbz1.size)
        clear HS hz2
        go_wp2_with fail
        refine (len5 z2).mono ?_
        rintro e z3 ⟨v5, rfl, ho5, hz3⟩
        obtain ⟨D5, d5, rfl, _, _, _⟩ := own_form' ho5
        have hbz3 := hbz2.trans (hz3.mono hbz2.size)
        clear ho5 hz3
        go_wp2
        go_ret
        exact ⟨rfl, hbz3⟩
    · have hki : ¬ (k : Int) < (m : Int) := by omega
      have KR := HK.out
      have hlF := fieldsOf_le (G.take k) (L.take k) (by rw [List.length_take, List.length_take, hL.out, hGm.out]; omega)
      have hlT := total_take L k
      have htt := htot.out
      have hgT : (G.take k).length ≤ k := by simp; omega
      have hlG := listGo_fields (G.take k) (L.take k) (fieldsOf (G.take k) (L.take k)).length [] [] (by rw [List.length_take, List.length_take, hL.out, hGm.out]; omega) HT.out (fun y hy => by have := total_mem (List.mem_of_mem_take hy); omega) (fieldsOf_ge _ _ (by rw [List.length_take, List.length_take, hL.out, hGm.out]; omega))
      rw [List.nil_append, List.nil_append] at hlG
      have hEr := (hE.out.below hbr).take k
      have hxl : (xs.take k).length = (L.take k).length := by rw [List.length_take, List.length_take, hL.out, hxn.out]
      obtain ⟨F0, hF0⟩ : ∃ F0, F0 = fieldsOf (G.take k) (L.take k) := ⟨_, rfl⟩
      obtain ⟨T0, hT0⟩ : ∃ T0, T0 = G.take k := ⟨_, rfl⟩
      obtain ⟨X0, hX0⟩ : ∃ X0, X0 = xs.take k := ⟨_, rfl⟩
      obtain ⟨L0, hL0⟩ : ∃ L0, L0 = L.take k := ⟨_, rfl⟩
      rw [← hF0] at KR hlF hlG
      rw [← hT0] at KR hlF hlG hgT
      rw [← hX0] at KR hEr hxl
      rw [← hL0] at hlF hlT hlG hEr hxl
      clear hF0 hT0 hX0 hL0
      have hoX := KR.outer
      rw [hxl] at hoX
      obtain ⟨Aa, ca, rfl, hca, hcam, hHa⟩ := own_form' KR.all
      obtain ⟨At, ct, rfl, _, _, hHt⟩ := own_form' KR.tags
      obtain ⟨Ac, cc, rfl, hcc, hccm, hHc⟩ := own_form' hoX
      have HLI := hide (list_of wr Aa F0.length ca F0 (T0, L0, 0) hHa hca hcam (Nat.le_refl _) (by omega) (hide hlG))
      have HEr := hide hEr
      have HHt := hide hHt
      have HHc := hide hHc
      clear KR hlF hlG hEr hxl hoX hHa hca hcam HK HT hHt hHc htot hO hE hG hL hGm hxn
      go_wp2_with fail
      refine HLI.out.mono ?_
      rintro e z1 ⟨tv, cv, ys, rfl, KK, hz1⟩
      obtain ⟨D1, d1, D2, d2, rfl, rfl, p1, p2, p3, p4, p5⟩ := KK.reads
      have t1 := txt8 z1 d1 p1
      have t2 := txt8 z1 ct (HHt.out.below hz1)
      have HS := hide (same_any z1 z1.heap.size D2 Ac L0.length d2 cc ys X0 L0 p2 ((HHc.out.below hz1).upto hz1.size) p4 hcc p5 hccm rfl p3 (HEr.out.below hz1))
      have hbz1 := hbr.trans (hz1.mono hbr.size)
      clear KK HLI p1 p2 p3 p4 p5 HHt HHc HEr hz1 hcc hccm
      go_wp2_with fail
      refine HS.out.mono ?_
      rintro e z2 ⟨rfl, hz2⟩
      have hbz2 := hbz1.trans (hz2.mono hbz1.size)
      clear HS hz2
      go_wp2_with fail
      refine (len5 z2).mono ?_
      rintro e z3 ⟨v5, rfl, ho5, hz3⟩
      obtain ⟨D5, d5, rfl, _, _, _⟩ := own_form' ho5
      have hbz3 := hbz2.trans (hz3.mono hbz2.size)
      clear ho5 hz3
      go_wp2
      go_ret
      exact ⟨rfl, hbz3⟩

end Go.Proofs.Ytjannmoijoakcaa.Ber
