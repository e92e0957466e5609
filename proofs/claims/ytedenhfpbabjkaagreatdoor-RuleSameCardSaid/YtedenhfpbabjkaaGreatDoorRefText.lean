/-
  The reference's Text writes the text of a and b. By an AI agent.
-/
import Derived.Test.YtedenhfpbabjkaaGreatDoorPrint
import Derived.Deep.RegionWith
namespace Go.Proofs.YtedenhfpbabjkaaGreatDoor
open Go.RowKit Flt

set_option maxRecDepth 100000 in
set_option maxHeartbeats 8000000 in
theorem text_any (a b : Int) (ha : Fits a) (hb : Fits b) (w : World) (hT : Tabs w) :
    Calls Tryz.prog 48 #[pairV a b] w fun e w' => e = .returned (.string (txt (text a b))) ∧ Below w.heap.size w w' := by
  unfold pairV
  have ca := fun w hT => format_any a ha.lo' ha.hi' w hT
  have cb := fun w hT => second_any b hb w hT
  have la := ha.len
  have lb := sec_len hb
  have e1 : txt (Lib.itoa a) ++ ⟨#[43]⟩ ++ txt (sec b) = txt (Lib.itoa a ++ [43] ++ sec b) := by rw [txt_p, txt_app]
  have e2 : txt (Lib.itoa a) ++ txt (sec b) = txt (Lib.itoa a ++ sec b) := txt_app _ _
  have e3 : text a b = if b = 0 then Lib.itoa a else if a = 0 then sec b else if 0 < b then Lib.itoa a ++ [43] ++ sec b else Lib.itoa a ++ sec b := rfl
  generalize hS : txt (text a b) = S
  rw [e3] at hS
  have h1 := below1 w (.cells #[.int .i64 a, .int .i64 b] 46)
  have hT1 := hT.below h1
  by_cases hb0 : b = 0
  · rw [if_pos hb0] at hS
    subst hS
    clear e1 e2 e3
    generalize txt (Lib.itoa a) = A at *
    subst hb0
    go_enter Tryz.func48, Tryz.ntmps48
    go_wp2_with (go_at_call 37; refine (ca _ hT1).mono ?_; rintro e w2 ⟨rfl, hb2⟩)
    go_ret
    exact ⟨rfl, h1.trans (hb2.mono h1.size)⟩
  · by_cases ha0 : a = 0
    · rw [if_neg hb0, if_pos ha0] at hS
      subst hS
      clear e1 e2 e3
      generalize txt (sec b) = B at *
      subst ha0
      go_enter Tryz.func48, Tryz.ntmps48
      go_wp2_with (go_at_call 69; refine (cb _ hT1).mono ?_; rintro e w2 ⟨rfl, hb2⟩)
      go_ret
      exact ⟨rfl, h1.trans (hb2.mono h1.size)⟩
    · by_cases hp : 0 < b
      · rw [if_neg hb0, if_neg ha0, if_pos hp, ← e1] at hS
        clear e1 e2 e3
        generalize txt (Lib.itoa a) = A at *
        generalize txt (sec b) = B' at *
        replace hS := hide hS
        go_enter Tryz.func48, Tryz.ntmps48
        go_wp2
        have hlt : w.heap.size < (w.alloc (.cells #[.int .i64 a, .int .i64 b] 46)).heap.size := by simp
        have c0 : (w.alloc (.cells #[.int .i64 a, .int .i64 b] 46)).cell? ⟨w.heap.size, 0, none⟩ = some (.int .i64 a) := by rw [World.cell?_alloc_at (hn := by simp)]; rfl
        have c1 : (w.alloc (.cells #[.int .i64 a, .int .i64 b] 46)).cell? ⟨w.heap.size, 1, none⟩ = some (.int .i64 b) := by rw [World.cell?_alloc_at (hn := by simp)]; rfl
        generalize w.alloc (.cells #[.int .i64 a, .int .i64 b] 46) = w1 at *
        generalize hB : w.heap.size = B at *
        refine grow_begin (by kernel_rfl) ?_
        refine grow_take 0 (some 21) (v := ?va0) rfl rfl (by kernel_rfl) (by kernel_rfl) (by kernel_rfl) (fun _ _ _ h => h) (by rfl) (fun W hW => ?ya0) ?_
        case ya0 =>
          go_simp <;> with_reducible rfl
        simp only [Act.put, List.setIfInBounds_toArray, List.set_cons_zero, List.set_cons_succ]
        refine grow_take 1 (some 22) (v := ?va1) rfl rfl (by kernel_rfl) (by kernel_rfl) (by kernel_rfl) (fun _ _ _ h => h) (by rfl) (fun W hW => ?ya1) ?_
        case ya1 =>
          have h1 : W.cell? _ = _ := (hW.cell (p := ⟨B, 0, none⟩) hlt).trans c0
          go_simp <;> with_reducible rfl
        simp only [Act.put, List.setIfInBounds_toArray, List.set_cons_zero, List.set_cons_succ]
        refine grow_take 4 (some 25) (v := ?va4) rfl rfl (by kernel_rfl) (by kernel_rfl) (by kernel_rfl) (fun _ _ _ h => h) (by rfl) (fun W hW => ?ya4) ?_
        case ya4 =>
          go_simp <;> with_reducible rfl
        simp only [Act.put, List.setIfInBounds_toArray, List.set_cons_zero, List.set_cons_succ]
        refine grow_take 5 (some 26) (v := ?va5) rfl rfl (by kernel_rfl) (by kernel_rfl) (by kernel_rfl) (fun _ _ _ h => h) (by rfl) (fun W hW => ?ya5) ?_
        case ya5 =>
          have h1 : W.cell? _ = _ := (hW.cell (p := ⟨B, 1, none⟩) hlt).trans c1
          go_simp <;> with_reducible rfl
        simp only [Act.put, List.setIfInBounds_toArray, List.set_cons_zero, List.set_cons_succ]
        refine grow_only 2 rfl (by kernel_rfl) (fun K hK => ?_)
        go_simp
        refine (ca _ (hT1.below ((Below.refl _ _).drew))).mono ?_
        rintro e w2 ⟨rfl, hb2⟩
        refine hK.out _ _ hb2 ?_
        clear hK K
        try simp only [Act.put, List.setIfInBounds_toArray, List.set_cons_zero, List.set_cons_succ]
        refine grow_take 3 (some 24) (v := ?va3) rfl rfl (by kernel_rfl) (by kernel_rfl) (by kernel_rfl) (fun _ _ _ h => h) (by rfl) (fun W hW => ?ya3) ?_
        case ya3 =>
          go_simp
          rw [if_neg (by omega)]
        simp only [Act.put, List.setIfInBounds_toArray, List.set_cons_zero, List.set_cons_succ]
        refine grow_only 6 rfl (by kernel_rfl) (fun K hK => ?_)
        go_simp
        refine (cb _ ((hT1.below ((Below.refl _ _).drew)).below hb2)).mono ?_
        rintro e w3 ⟨rfl, hb3⟩
        refine hK.out _ _ hb3 ?_
        clear hK K
        try simp only [Act.put, List.setIfInBounds_toArray, List.set_cons_zero, List.set_cons_succ]
        refine grow_take 7 (some 28) (v := ?va7) rfl rfl (by kernel_rfl) (by kernel_rfl) (by kernel_rfl) (fun _ _ _ h => h) (by rfl) (fun W hW => ?ya7) ?_
        case ya7 =>
          go_simp
          rw [if_neg (by omega)]
        simp only [Act.put, List.setIfInBounds_toArray, List.set_cons_zero, List.set_cons_succ]
        refine grow_take 8 (some 2) (v := ?va8) rfl rfl (by kernel_rfl) (by kernel_rfl) (by kernel_rfl) (fun _ _ _ h => h) (by rfl) (fun W hW => ?ya8) ?_
        case ya8 =>
          go_simp <;> with_reducible rfl
        simp only [Act.put, List.setIfInBounds_toArray, List.set_cons_zero, List.set_cons_succ]
        refine grow_done (by kernel_rfl) ?_ _
        go_wp2
        go_ret
        subst hB
        have hbb := (h1.trans ((Below.refl _ _).drew)).trans (hb2.mono (Nat.le_of_lt hlt))
        exact ⟨by rw [← hS.out]; rfl, hbb.trans (hb3.mono hbb.size)⟩
      · rw [if_neg hb0, if_neg ha0, if_neg hp, ← e2] at hS
        clear e1 e2 e3
        generalize txt (Lib.itoa a) = A at *
        generalize txt (sec b) = B' at *
        replace hS := hide hS
        go_enter Tryz.func48, Tryz.ntmps48
        go_wp2
        have hlt : w.heap.size < (w.alloc (.cells #[.int .i64 a, .int .i64 b] 46)).heap.size := by simp
        have c0 : (w.alloc (.cells #[.int .i64 a, .int .i64 b] 46)).cell? ⟨w.heap.size, 0, none⟩ = some (.int .i64 a) := by rw [World.cell?_alloc_at (hn := by simp)]; rfl
        have c1 : (w.alloc (.cells #[.int .i64 a, .int .i64 b] 46)).cell? ⟨w.heap.size, 1, none⟩ = some (.int .i64 b) := by rw [World.cell?_alloc_at (hn := by simp)]; rfl
        generalize w.alloc (.cells #[.int .i64 a, .int .i64 b] 46) = w1 at *
        generalize hB : w.heap.size = B at *
        refine grow_begin (by kernel_rfl) ?_
        refine grow_take 0 (some 29) (v := ?vb0) rfl rfl (by kernel_rfl) (by kernel_rfl) (by kernel_rfl) (fun _ _ _ h => h) (by rfl) (fun W hW => ?yb0) ?_
        case yb0 =>
          go_simp <;> with_reducible rfl
        simp only [Act.put, List.setIfInBounds_toArray, List.set_cons_zero, List.set_cons_succ]
        refine grow_take 1 (some 30) (v := ?vb1) rfl rfl (by kernel_rfl) (by kernel_rfl) (by kernel_rfl) (fun _ _ _ h => h) (by rfl) (fun W hW => ?yb1) ?_
        case yb1 =>
          have h1 : W.cell? _ = _ := (hW.cell (p := ⟨B, 0, none⟩) hlt).trans c0
          go_simp <;> with_reducible rfl
        simp only [Act.put, List.setIfInBounds_toArray, List.set_cons_zero, List.set_cons_succ]
        refine grow_take 3 (some 32) (v := ?vb3) rfl rfl (by kernel_rfl) (by kernel_rfl) (by kernel_rfl) (fun _ _ _ h => h) (by rfl) (fun W hW => ?yb3) ?_
        case yb3 =>
          go_simp <;> with_reducible rfl
        simp only [Act.put, List.setIfInBounds_toArray, List.set_cons_zero, List.set_cons_succ]
        refine grow_take 4 (some 33) (v := ?vb4) rfl rfl (by kernel_rfl) (by kernel_rfl) (by kernel_rfl) (fun _ _ _ h => h) (by rfl) (fun W hW => ?yb4) ?_
        case yb4 =>
          have h1 : W.cell? _ = _ := (hW.cell (p := ⟨B, 1, none⟩) hlt).trans c1
          go_simp <;> with_reducible rfl
        simp only [Act.put, List.setIfInBounds_toArray, List.set_cons_zero, List.set_cons_succ]
        refine grow_only 2 rfl (by kernel_rfl) (fun K hK => ?_)
        go_simp
        refine (ca _ (hT1.below ((Below.refl _ _).drew))).mono ?_
        rintro e w2 ⟨rfl, hb2⟩
        refine hK.out _ _ hb2 ?_
        clear hK K
        try simp only [Act.put, List.setIfInBounds_toArray, List.set_cons_zero, List.set_cons_succ]
        refine grow_only 5 rfl (by kernel_rfl) (fun K hK => ?_)
        go_simp
        refine (cb _ ((hT1.below ((Below.refl _ _).drew)).below hb2)).mono ?_
        rintro e w3 ⟨rfl, hb3⟩
        refine hK.out _ _ hb3 ?_
        clear hK K
        try simp only [Act.put, List.setIfInBounds_toArray, List.set_cons_zero, List.set_cons_succ]
        refine grow_take 6 (some 35) (v := ?vb6) rfl rfl (by kernel_rfl) (by kernel_rfl) (by kernel_rfl) (fun _ _ _ h => h) (by rfl) (fun W hW => ?yb6) ?_
        case yb6 =>
          go_simp
          rw [if_neg (by omega)]
        simp only [Act.put, List.setIfInBounds_toArray, List.set_cons_zero, List.set_cons_succ]
        refine grow_take 7 (some 2) (v := ?vb7) rfl rfl (by kernel_rfl) (by kernel_rfl) (by kernel_rfl) (fun _ _ _ h => h) (by rfl) (fun W hW => ?yb7) ?_
        case yb7 =>
          go_simp <;> with_reducible rfl
        simp only [Act.put, List.setIfInBounds_toArray, List.set_cons_zero, List.set_cons_succ]
        refine grow_done (by kernel_rfl) ?_ _
        go_wp2
        go_ret
        subst hB
        have hbb := (h1.trans ((Below.refl _ _).drew)).trans (hb2.mono (Nat.le_of_lt hlt))
        exact ⟨by rw [← hS.out]; rfl, hbb.trans (hb3.mono hbb.size)⟩

end Go.Proofs.YtedenhfpbabjkaaGreatDoor
