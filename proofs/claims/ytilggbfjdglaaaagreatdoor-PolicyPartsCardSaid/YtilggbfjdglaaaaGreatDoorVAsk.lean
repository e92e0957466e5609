/-
  The program's ask: what is asked, its names and type made normal, and whether it is a question. By an AI agent.
-/
import Derived.Test.YtilggbfjdglaaaaGreatDoorVBlk
namespace Go.Proofs.YtilggbfjdglaaaaGreatDoor
open Go.RowKit
set_option linter.unusedVariables false

/-- A question's cells. -/
def qnC (q : Qn) : List Value := [.string (txt q.s), .string (txt q.n), .string (txt q.t), .int .i64 q.right]

/-- What is told of a question. -/
structure AskPost (s : List UInt8) (right : Int) (n a : List UInt8) (w : World) (e : Ending) (w' : World) : Prop where
  out : ∃ A B C r ok, e = .returned (.tuple #[.agg #[.string A, .string B, .string C, .int .i64 r], .bool ok]) ∧
    (AskP s right n a → ok = true ∧ Value.agg #[.string A, .string B, .string C, .int .i64 r] = .agg #[.string (txt (askV s right n a).s), .string (txt (askV s right n a).n), .string (txt (askV s right n a).t), .int .i64 (askV s right n a).right]) ∧
    (¬ AskP s right n a → ok = false) ∧ Below w.heap.size w w'

set_option maxRecDepth 100000 in
set_option maxHeartbeats 32000000 in
theorem ask_any (s : List UInt8) (right : Int) (n a : List UInt8) (hs : s.length ≤ 1000000) (hn : n.length ≤ 1000000) (w : World) (hT : TM w) :
    Calls Tryz.prog 14 #[.string (txt s), .int .i64 right, .string (txt n), .string (txt a)] w (AskPost s right n a w) := by
  have HRt := hide (fun w => isright_any right w)
  have HNs := hide (fun w hT => pnormal_text s hs w hT)
  have HNn := hide (fun w hT => pnormal_text n hn w hT)
  have HNt := hide (fun w hT => tname_any a w hT)
  have hb1 := below1 w (.cells #[.string ⟨#[]⟩, .string ⟨#[]⟩, .string ⟨#[]⟩, .int .i64 0] 43)
  have hB1 := Blk.new w [.string ⟨#[]⟩, .string ⟨#[]⟩, .string ⟨#[]⟩, .int .i64 0] 43
  have hT1 := hT.below hb1
  change Blk (w.alloc (.cells #[.string ⟨#[]⟩, .string ⟨#[]⟩, .string ⟨#[]⟩, .int .i64 0] 43)) _ _ at hB1
  obtain ⟨w1, hw1⟩ : ∃ w1, w.alloc (.cells #[.string ⟨#[]⟩, .string ⟨#[]⟩, .string ⟨#[]⟩, .int .i64 0] 43) = w1 := ⟨_, rfl⟩
  obtain ⟨h, hh⟩ : ∃ h, w.heap.size = h := ⟨_, rfl⟩
  rw [hw1] at hb1 hB1 hT1
  have HC := hide hb1
  rw [hh] at hB1
  have HB := hide hB1
  have HT := hide hT1
  have Hw1 := hide hw1
  have Hh := hide hh
  clear hs hn hT hb1 hB1 hT1 hw1 hh
  suffices H : Calls Tryz.prog 14 #[.string (txt s), .int .i64 right, .string (txt n), .string (txt a)] w fun e w' => ∃ A B C r ok, e = .returned (.tuple #[.agg #[.string A, .string B, .string C, .int .i64 r], .bool ok]) ∧
      (AskP s right n a → ok = true ∧ Value.agg #[.string A, .string B, .string C, .int .i64 r] = .agg #[.string (txt (askV s right n a).s), .string (txt (askV s right n a).n), .string (txt (askV s right n a).t), .int .i64 (askV s right n a).right]) ∧
      (¬ AskP s right n a → ok = false) ∧ Below w.heap.size w w' from H.mono fun e w' h => ⟨h⟩
  have hask : askV s right n a = ⟨(normT s).1, (normT n).1, (tnV a).1, right⟩ := rfl
  rw [hask]
  simp only
  obtain ⟨AP, hAP⟩ : ∃ p, AskP s right n a = p := ⟨_, rfl⟩
  rw [hAP]
  have hdef : AP = (RightP right ∧ (normT s).2 = 0 ∧ (normT n).2 = 0 ∧ (tnV a).2 = true) := hAP.symm
  clear hAP hask
  by_cases h1 : RightP right
  · rw [Tr_yes h1] at HRt
    by_cases h2 : (normT s).2 = 0
    · rw [h2] at HNs
      by_cases h3 : (normT n).2 = 0
      · rw [h3] at HNn
        obtain ⟨ok, hok⟩ : ∃ ok, (tnV a).2 = ok := ⟨_, rfl⟩
        rw [hok] at HNt
        have Hd : Hid (AP ↔ ok = true) := hide (by rw [hdef, hok]; exact ⟨fun h => h.2.2.2, fun h => ⟨h1, h2, h3, h⟩⟩)
        clear h1 h2 h3 hok hdef
        generalize txt (normT s).1 = NS at *
        generalize txt (normT n).1 = NN at *
        generalize txt (tnV a).1 = NA at *
        generalize txt s = S at *
        generalize txt n = U at *
        generalize txt a = V at *
        go_enter Tryz.func14, Tryz.ntmps14
        go_upto_region 1 with fail
        rw [Hw1.out]
        try rw [Hh.out]
        go_wp2_with (go_at_call 22; fail)
        refine (HRt.out _).mono ?_
        rintro e w2 ⟨rfl, hw2⟩
        obtain rfl := hw2.symm
        clear hw2
        go_wp2_with (go_at_call 23; fail)
        refine (HNs.out _ HT.out).mono ?_
        rintro e w3 ⟨rfl, hb3⟩
        have HB3 := hide (HB.out.grow hb3)
        have HC3 := hide (HC.out.trans (hb3.mono HC.out.size))
        have HT3 := hide (HT.out.below hb3)
        clear hb3 HB HC HT HNs
        have HB := HB3
        have HC := HC3
        have HT := HT3
        clear HB3 HC3 HT3
        go_wp2_with (go_at_call 23; fail)
        refine (HNn.out _ HT.out).mono ?_
        rintro e w4 ⟨rfl, hb4⟩
        have HB3 := hide (HB.out.grow hb4)
        have HC3 := hide (HC.out.trans (hb4.mono HC.out.size))
        have HT3 := hide (HT.out.below hb4)
        clear hb4 HB HC HT HNn
        have HB := HB3
        have HC := HC3
        have HT := HT3
        clear HB3 HC3 HT3
        go_wp2_with (go_at_call 24; fail)
        refine (HNt.out _ HT.out).mono ?_
        rintro e w5 ⟨rfl, hb5⟩
        have HB3 := hide (HB.out.grow hb5)
        have HC3 := hide (HC.out.trans (hb5.mono HC.out.size))
        have HT3 := hide (HT.out.below hb5)
        clear hb5 HB HC HT HNt
        have HB := HB3
        have HC := HC3
        have HT := HT3
        clear HB3 HC3 HT3
        go_wp2_with (refine storeB w5 rfl 43 (.tmp 8) (.tmp 44) rfl h 0 _ [.string NS, .string NN, .string NA, .int .i64 right] rfl rfl HB.out (by simp) (by kernel_rfl) (by simp [Value.oneCell']) ?_)
        have hBz := HB.out.sets 0 [.string NS, .string NN, .string NA, .int .i64 right] (by simp) [.string NS, .string NN, .string NA, .int .i64 right] (by simp)
        have hbz := HC.out.trans (below_sets (base := w.heap.size) (h := h) w5 [.string NS, .string NN, .string NA, .int .i64 right] (by rw [Hh.out]; exact Nat.le_refl _) HC.out.size)
        have HBz := hide hBz
        have Hbz := hide hbz
        clear hBz hbz HB HC
        generalize w5.setCells h 0 [.string NS, .string NN, .string NA, .int .i64 right] = wz at *
        refine bodyPost_ret (v := .tuple #[.agg #[.string NS, .string NN, .string NA, .int .i64 right], .bool ok]) ?_ rfl ?_
        · exact results_cell2 rfl _ wz h [.string NS, .string NN, .string NA, .int .i64 right] _ _ rfl rfl HBz.out.range Tryz.underlying43 rfl (by kernel_rfl)
        · exact ⟨_, _, _, _, _, rfl, fun hp => ⟨Hd.out.1 hp, rfl⟩, fun hp => by cases ok with | false => rfl | true => exact absurd (Hd.out.2 rfl) hp, Hbz.out⟩
      · have q3 : ((normT n).2 == 0) = false := beq_false_of_ne h3
        have q3' : ((normT n).2 != 0) = true := by unfold bne; rw [q3]; rfl
        have Hno : Hid (¬ AP) := hide (by rw [hdef]; exact fun h => h3 h.2.2.1)
        clear h1 h2 h3 hdef HNt
        generalize (normT n).2 = y at *
        generalize txt (normT s).1 = NS at *
        generalize txt (normT n).1 = NN at *
        generalize txt (tnV a).1 = NA at *
        generalize txt s = S at *
        generalize txt n = U at *
        generalize txt a = V at *
        go_enter Tryz.func14, Tryz.ntmps14
        go_upto_region 1 with fail
        rw [Hw1.out]
        try rw [Hh.out]
        go_wp2_with (go_at_call 22; fail)
        refine (HRt.out _).mono ?_
        rintro e w2 ⟨rfl, hw2⟩
        obtain rfl := hw2.symm
        clear hw2
        go_wp2_with (go_at_call 23; fail)
        refine (HNs.out _ HT.out).mono ?_
        rintro e w3 ⟨rfl, hb3⟩
        have HB3 := hide (HB.out.grow hb3)
        have HC3 := hide (HC.out.trans (hb3.mono HC.out.size))
        have HT3 := hide (HT.out.below hb3)
        clear hb3 HB HC HT HNs
        have HB := HB3
        have HC := HC3
        have HT := HT3
        clear HB3 HC3 HT3
        go_wp2_with (go_at_call 23; fail)
        refine (HNn.out _ HT.out).mono ?_
        rintro e w4 ⟨rfl, hb4⟩
        have HB3 := hide (HB.out.grow hb4)
        have HC3 := hide (HC.out.trans (hb4.mono HC.out.size))
        have HT3 := hide (HT.out.below hb4)
        clear hb4 HB HC HT HNn
        have HB := HB3
        have HC := HC3
        have HT := HT3
        clear HB3 HC3 HT3
        go_wp2_with (refine storeB w4 rfl 43 (.tmp 8) (.tmp 34) rfl h 0 _ [.string ⟨#[]⟩, .string ⟨#[]⟩, .string ⟨#[]⟩, .int .i64 0] rfl rfl HB.out (by simp) (by kernel_rfl) (by simp [Value.oneCell']) ?_)
        have hBz := HB.out.sets 0 [.string ⟨#[]⟩, .string ⟨#[]⟩, .string ⟨#[]⟩, .int .i64 0] (by simp) [.string ⟨#[]⟩, .string ⟨#[]⟩, .string ⟨#[]⟩, .int .i64 0] (by simp)
        have hbz := HC.out.trans (below_sets (base := w.heap.size) (h := h) w4 [.string ⟨#[]⟩, .string ⟨#[]⟩, .string ⟨#[]⟩, .int .i64 0] (by rw [Hh.out]; exact Nat.le_refl _) HC.out.size)
        have HBz := hide hBz
        have Hbz := hide hbz
        clear hBz hbz HB HC
        generalize w4.setCells h 0 [.string ⟨#[]⟩, .string ⟨#[]⟩, .string ⟨#[]⟩, .int .i64 0] = wz at *
        refine bodyPost_ret (v := .tuple #[.agg #[.string ⟨#[]⟩, .string ⟨#[]⟩, .string ⟨#[]⟩, .int .i64 0], .bool false]) ?_ rfl ?_
        · exact results_cell2 rfl _ wz h [.string ⟨#[]⟩, .string ⟨#[]⟩, .string ⟨#[]⟩, .int .i64 0] _ _ rfl rfl HBz.out.range Tryz.underlying43 rfl (by kernel_rfl)
        · exact ⟨_, _, _, _, _, rfl, fun hp => absurd hp Hno.out, fun _ => rfl, Hbz.out⟩
    · have q2 : ((normT s).2 == 0) = false := beq_false_of_ne h2
      have q2' : ((normT s).2 != 0) = true := by unfold bne; rw [q2]; rfl
      have Hno : Hid (¬ AP) := hide (by rw [hdef]; exact fun h => h2 h.2.1)
      clear h1 h2 hdef HNt HNn
      generalize (normT s).2 = y at *
      generalize txt (normT s).1 = NS at *
      generalize txt (normT n).1 = NN at *
      generalize txt (tnV a).1 = NA at *
      generalize txt s = S at *
      generalize txt n = U at *
      generalize txt a = V at *
      go_enter Tryz.func14, Tryz.ntmps14
      go_upto_region 1 with fail
      rw [Hw1.out]
      try rw [Hh.out]
      go_wp2_with (go_at_call 22; fail)
      refine (HRt.out _).mono ?_
      rintro e w2 ⟨rfl, hw2⟩
      obtain rfl := hw2.symm
      clear hw2
      go_wp2_with (go_at_call 23; fail)
      refine (HNs.out _ HT.out).mono ?_
      rintro e w3 ⟨rfl, hb3⟩
      have HB3 := hide (HB.out.grow hb3)
      have HC3 := hide (HC.out.trans (hb3.mono HC.out.size))
      have HT3 := hide (HT.out.below hb3)
      clear hb3 HB HC HT HNs
      have HB := HB3
      have HC := HC3
      have HT := HT3
      clear HB3 HC3 HT3
      go_wp2_with (refine storeB w3 rfl 43 (.tmp 8) (.tmp 26) rfl h 0 _ [.string ⟨#[]⟩, .string ⟨#[]⟩, .string ⟨#[]⟩, .int .i64 0] rfl rfl HB.out (by simp) (by kernel_rfl) (by simp [Value.oneCell']) ?_)
      have hBz := HB.out.sets 0 [.string ⟨#[]⟩, .string ⟨#[]⟩, .string ⟨#[]⟩, .int .i64 0] (by simp) [.string ⟨#[]⟩, .string ⟨#[]⟩, .string ⟨#[]⟩, .int .i64 0] (by simp)
      have hbz := HC.out.trans (below_sets (base := w.heap.size) (h := h) w3 [.string ⟨#[]⟩, .string ⟨#[]⟩, .string ⟨#[]⟩, .int .i64 0] (by rw [Hh.out]; exact Nat.le_refl _) HC.out.size)
      have HBz := hide hBz
      have Hbz := hide hbz
      clear hBz hbz HB HC
      generalize w3.setCells h 0 [.string ⟨#[]⟩, .string ⟨#[]⟩, .string ⟨#[]⟩, .int .i64 0] = wz at *
      refine bodyPost_ret (v := .tuple #[.agg #[.string ⟨#[]⟩, .string ⟨#[]⟩, .string ⟨#[]⟩, .int .i64 0], .bool false]) ?_ rfl ?_
      · exact results_cell2 rfl _ wz h [.string ⟨#[]⟩, .string ⟨#[]⟩, .string ⟨#[]⟩, .int .i64 0] _ _ rfl rfl HBz.out.range Tryz.underlying43 rfl (by kernel_rfl)
      · exact ⟨_, _, _, _, _, rfl, fun hp => absurd hp Hno.out, fun _ => rfl, Hbz.out⟩
  · rw [Tr_no h1] at HRt
    have Hno : Hid (¬ AP) := hide (by rw [hdef]; exact fun h => h1 h.1)
    clear h1 hdef HNt HNn HNs
    generalize txt (normT s).1 = NS at *
    generalize txt (normT n).1 = NN at *
    generalize txt (tnV a).1 = NA at *
    generalize txt s = S at *
    generalize txt n = U at *
    generalize txt a = V at *
    go_enter Tryz.func14, Tryz.ntmps14
    go_upto_region 1 with fail
    rw [Hw1.out]
    try rw [Hh.out]
    go_wp2_with (go_at_call 22; fail)
    refine (HRt.out _).mono ?_
    rintro e w2 ⟨rfl, hw2⟩
    obtain rfl := hw2.symm
    clear hw2
    go_wp2_with (refine storeB w1 rfl 43 (.tmp 8) (.tmp 18) rfl h 0 _ [.string ⟨#[]⟩, .string ⟨#[]⟩, .string ⟨#[]⟩, .int .i64 0] rfl rfl HB.out (by simp) (by kernel_rfl) (by simp [Value.oneCell']) ?_)
    have hBz := HB.out.sets 0 [.string ⟨#[]⟩, .string ⟨#[]⟩, .string ⟨#[]⟩, .int .i64 0] (by simp) [.string ⟨#[]⟩, .string ⟨#[]⟩, .string ⟨#[]⟩, .int .i64 0] (by simp)
    have hbz := HC.out.trans (below_sets (base := w.heap.size) (h := h) w1 [.string ⟨#[]⟩, .string ⟨#[]⟩, .string ⟨#[]⟩, .int .i64 0] (by rw [Hh.out]; exact Nat.le_refl _) HC.out.size)
    have HBz := hide hBz
    have Hbz := hide hbz
    clear hBz hbz HB HC
    generalize w1.setCells h 0 [.string ⟨#[]⟩, .string ⟨#[]⟩, .string ⟨#[]⟩, .int .i64 0] = wz at *
    refine bodyPost_ret (v := .tuple #[.agg #[.string ⟨#[]⟩, .string ⟨#[]⟩, .string ⟨#[]⟩, .int .i64 0], .bool false]) ?_ rfl ?_
    · exact results_cell2 rfl _ wz h [.string ⟨#[]⟩, .string ⟨#[]⟩, .string ⟨#[]⟩, .int .i64 0] _ _ rfl rfl HBz.out.range Tryz.underlying43 rfl (by kernel_rfl)
    · exact ⟨_, _, _, _, _, rfl, fun hp => absurd hp Hno.out, fun _ => rfl, Hbz.out⟩

end Go.Proofs.YtilggbfjdglaaaaGreatDoor
