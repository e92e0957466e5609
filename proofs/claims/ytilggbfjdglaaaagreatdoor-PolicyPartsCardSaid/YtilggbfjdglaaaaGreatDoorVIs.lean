/-
  The program's isOf and isAbout: whether a rule is a subject's, and about a question. By an AI agent.
-/
import Derived.Test.YtilggbfjdglaaaaGreatDoorVAsk
import Derived.Test.YtilggbfjdglaaaaGreatDoorGrow
namespace Go.Proofs.YtilggbfjdglaaaaGreatDoor
open Go.RowKit
set_option linter.unusedVariables false

theorem trimP_any (l : List UInt8) (w : World) : Calls Tryz.prog 39 #[.string (txt l), .string ⟨#[64]⟩] w fun e w' => e = .returned (.string (txt (trimAt l))) ∧ w' = w := by
  have := Tryz.strings_TrimPrefix (txt l) ⟨#[64]⟩ w
  rw [txt_toList] at this
  exact this

theorem isV_any {s n : List UInt8} : isV [42] s n = true := by unfold isV; rw [if_pos rfl]
theorem isV_none {s n : List UInt8} : isV [45] s n = (s == []) := by
  unfold isV
  rw [if_neg (by decide), if_pos rfl]
  cases s <;> simp
theorem isV_self {s n : List UInt8} : isV [61] s n = (!(s == []) && (s == n)) := by
  unfold isV
  rw [if_neg (by decide), if_neg (by decide), if_pos rfl]
  by_cases h : s = []
  · subst h; simp
  · by_cases h2 : s = n
    · have h3 : ¬ n = [] := fun e => h (h2.trans e)
      simp [h2, h3]
    · simp [h, h2]
theorem isV_else {t s n : List UInt8} (h1 : t ≠ [42]) (h2 : t ≠ [45]) (h3 : t ≠ [61]) : isV t s n = (!(s == []) && underV s (trimAt t)) := by
  unfold isV
  rw [if_neg h1, if_neg h2, if_neg h3]
  by_cases h : s = [] <;> simp [h]

set_option maxRecDepth 100000 in
set_option maxHeartbeats 32000000 in
theorem isof_any (r : Ru) (q : Qn) (hr : r.who.length ≤ 1000000) (hq : q.s.length ≤ 1000000) (w : World) (hT : TM w) :
    Calls Tryz.prog 26 #[.agg #[.string (txt r.who), .string (txt r.tgt), .string (txt r.att), .int .i64 r.rts, .bool r.alw], .agg #[.string (txt q.s), .string (txt q.n), .string (txt q.t), .int .i64 q.right]] w fun e w' => e = .returned (.bool (isV r.who q.s q.n)) ∧ Below w.heap.size w w' := by
  have HTr := hide (fun w => trimP_any r.who w)
  have HU := hide (fun w hT => punder_text q.s (trimAt r.who) hq (by have := trim_len r.who; unfold trimAt; omega) w hT)
  have hb1 := below1 w (.cells #[.string (txt r.who), .string (txt r.tgt), .string (txt r.att), .int .i64 r.rts, .bool r.alw] 35)
  have hX := Box5.new w (txt r.who) (txt r.tgt) (txt r.att) r.rts r.alw 35
  have hb2 := below1 (w.alloc (.cells #[.string (txt r.who), .string (txt r.tgt), .string (txt r.att), .int .i64 r.rts, .bool r.alw] 35)) (.cells #[.string (txt q.s), .string (txt q.n), .string (txt q.t), .int .i64 q.right] 43)
  have hY := Box4.new (w.alloc (.cells #[.string (txt r.who), .string (txt r.tgt), .string (txt r.att), .int .i64 r.rts, .bool r.alw] 35)) (txt q.s) (txt q.n) (txt q.t) q.right 43
  have hX2 := hX.grow hb2
  have hbb := hb1.trans (hb2.mono hb1.size)
  have hT2 := (hT.below hb1).below hb2
  obtain ⟨w1, hw1⟩ : ∃ w1, w.alloc (.cells #[.string (txt r.who), .string (txt r.tgt), .string (txt r.att), .int .i64 r.rts, .bool r.alw] 35) = w1 := ⟨_, rfl⟩
  have hs1 : w1.heap.size = w.heap.size + 1 := by rw [← hw1]; simp
  rw [hw1] at hY hX2 hbb hT2
  rw [hs1] at hY
  obtain ⟨w2, hw2⟩ : ∃ w2, w1.alloc (.cells #[.string (txt q.s), .string (txt q.n), .string (txt q.t), .int .i64 q.right] 43) = w2 := ⟨_, rfl⟩
  rw [hw2] at hY hX2 hbb hT2
  obtain ⟨h, hh⟩ : ∃ h, w.heap.size = h := ⟨_, rfl⟩
  obtain ⟨k, hk⟩ : ∃ k, w.heap.size + 1 = k := ⟨_, rfl⟩
  rw [hh] at hX2
  rw [hk] at hY
  have HX := hide hX2
  have HY := hide hY
  have HB := hide hbb
  have HT := hide hT2
  have Hw1 := hide hw1
  have Hw2 := hide hw2
  have Hs1 := hide hs1
  have Hh := hide hh
  have Hk := hide hk
  clear hb1 hX hb2 hY hX2 hbb hT2 hw1 hs1 hw2 hh hk hT
  clear hr hq
  have q0 := toeq q.s []
  have q0' : ((txt q.s).toList != []) = !(q.s == []) := by unfold bne; rw [q0]
  have p1 := toeq r.who [42]
  have p2 := toeq r.who [45]
  have p3 := toeq r.who [61]
  obtain ⟨kb, hkb⟩ : ∃ kb, (q.s == []) = kb := ⟨_, rfl⟩
  rw [hkb] at q0 q0'
  by_cases h1 : r.who = [42]
  · rw [show isV r.who q.s q.n = true by rw [h1]; exact isV_any]
    rw [show (r.who == [42]) = true by rw [h1]; rfl] at p1
    clear h1 hkb p2 p3 HU HTr
    generalize txt r.who = SW at *
    generalize txt r.tgt = ST at *
    generalize txt r.att = SA at *
    generalize r.rts = x at *
    generalize r.alw = al at *
    generalize txt q.s = QS at *
    generalize txt q.n = QN at *
    generalize txt q.t = QT at *
    generalize q.right = z at *
    cases kb
    all_goals
      go_enter Tryz.func26, Tryz.ntmps26
      go_upto_region 1 with fail
      rw [Hw1.out, Hw2.out]
      try rw [Hs1.out]
      rw [Hk.out, Hh.out]
      obtain ⟨x0, x1, x2, x3, x4, x5⟩ := HX.out
      obtain ⟨y0, y1, y2, y3, y4⟩ := HY.out
      go_wp2
      go_ret
      exact ⟨rfl, HB.out⟩
  rw [show (r.who == [42]) = false by simpa using h1] at p1
  by_cases h2 : r.who = [45]
  · rw [show isV r.who q.s q.n = kb by rw [h2, isV_none]; exact hkb]
    rw [show (r.who == [45]) = true by rw [h2]; rfl] at p2
    clear h1 h2 hkb p3 HU HTr
    generalize txt r.who = SW at *
    generalize txt r.tgt = ST at *
    generalize txt r.att = SA at *
    generalize r.rts = x at *
    generalize r.alw = al at *
    generalize txt q.s = QS at *
    generalize txt q.n = QN at *
    generalize txt q.t = QT at *
    generalize q.right = z at *
    cases kb
    all_goals
      go_enter Tryz.func26, Tryz.ntmps26
      go_upto_region 1 with fail
      rw [Hw1.out, Hw2.out]
      try rw [Hs1.out]
      rw [Hk.out, Hh.out]
      obtain ⟨x0, x1, x2, x3, x4, x5⟩ := HX.out
      obtain ⟨y0, y1, y2, y3, y4⟩ := HY.out
      go_wp2
      go_ret
      exact ⟨rfl, HB.out⟩
  rw [show (r.who == [45]) = false by simpa using h2] at p2
  by_cases h3 : r.who = [61]
  · have h4 := isV_self (s := q.s) (n := q.n)
    rw [hkb] at h4
    have q1 : ((txt q.s).toList == (txt q.n).toList) = (q.s == q.n) := by rw [txt_bytes, txt_bytes]
    obtain ⟨eb, heb⟩ : ∃ eb, (q.s == q.n) = eb := ⟨_, rfl⟩
    rw [heb] at q1 h4
    rw [show isV r.who q.s q.n = (!kb && eb) by rw [h3]; exact h4]
    rw [show (r.who == [61]) = true by rw [h3]; rfl] at p3
    clear h1 h2 h3 h4 heb hkb HU HTr
    generalize txt r.who = SW at *
    generalize txt r.tgt = ST at *
    generalize txt r.att = SA at *
    generalize r.rts = x at *
    generalize r.alw = al at *
    generalize txt q.s = QS at *
    generalize txt q.n = QN at *
    generalize txt q.t = QT at *
    generalize q.right = z at *
    cases kb
    all_goals cases eb
    all_goals
      go_enter Tryz.func26, Tryz.ntmps26
      go_upto_region 1 with fail
      rw [Hw1.out, Hw2.out]
      try rw [Hs1.out]
      rw [Hk.out, Hh.out]
      obtain ⟨x0, x1, x2, x3, x4, x5⟩ := HX.out
      obtain ⟨y0, y1, y2, y3, y4⟩ := HY.out
      go_wp2
      go_ret
      exact ⟨rfl, HB.out⟩
  rw [show (r.who == [61]) = false by simpa using h3] at p3
  rw [isV_else h1 h2 h3, hkb]
  generalize underV q.s (trimAt r.who) = ub at *
  generalize txt (trimAt r.who) = TR at *
  clear h1 h2 h3 hkb
  generalize txt r.who = SW at *
  generalize txt r.tgt = ST at *
  generalize txt r.att = SA at *
  generalize r.rts = x at *
  generalize r.alw = al at *
  generalize txt q.s = QS at *
  generalize txt q.n = QN at *
  generalize txt q.t = QT at *
  generalize q.right = z at *
  cases kb with
  | false =>
    rw [Bool.not_false] at q0'
    go_enter Tryz.func26, Tryz.ntmps26
    go_upto_region 1 with fail
    rw [Hw1.out, Hw2.out]
    try rw [Hs1.out]
    rw [Hk.out, Hh.out]
    obtain ⟨x0, x1, x2, x3, x4, x5⟩ := HX.out
    obtain ⟨y0, y1, y2, y3, y4⟩ := HY.out
    go_wp2_with fail
    refine grow_begin (by kernel_rfl) ?_
    have hdr : Below w2.heap.size w2 w2.drew := (Below.refl _ _).drew
    have hsd : w2.drew.heap.size = w2.heap.size := rfl
    have xd1 := (hdr.cell (p := ⟨h, 0, none⟩) x0).trans x1
    have yd1 := (hdr.cell (p := ⟨k, 0, none⟩) y0).trans y1
    rw [← hsd] at x0 y0
    have HBd := hide (HB.out.trans (hdr.mono HB.out.size))
    have HTd := hide (HT.out.below hdr)
    clear hdr hsd x1 x2 x3 x4 x5 y1 y2 y3 y4 HB HT
    generalize w2.drew = wd at *
    refine grow_take 0 (some 27) (v := ?vr0) rfl rfl (by kernel_rfl) (by kernel_rfl) (by kernel_rfl) (fun _ _ _ h => h) (by rfl) (fun W hW => ?yr0) ?_
    case yr0 =>
      go_simp <;> with_reducible rfl
    simp only [Act.put, List.setIfInBounds_toArray, List.set_cons_zero, List.set_cons_succ]
    refine grow_take 1 (some 28) (v := ?vr1) rfl rfl (by kernel_rfl) (by kernel_rfl) (by kernel_rfl) (fun _ _ _ h => h) (by rfl) (fun W hW => ?yr1) ?_
    case yr1 =>
      go_simp <;> with_reducible rfl
    simp only [Act.put, List.setIfInBounds_toArray, List.set_cons_zero, List.set_cons_succ]
    refine grow_take 2 (some 29) (v := ?vr2) rfl rfl (by kernel_rfl) (by kernel_rfl) (by kernel_rfl) (fun _ _ _ h => h) (by rfl) (fun W hW => ?yr2) ?_
    case yr2 =>
      go_simp <;> with_reducible rfl
    simp only [Act.put, List.setIfInBounds_toArray, List.set_cons_zero, List.set_cons_succ]
    refine grow_take 3 (some 30) (v := ?vr3) rfl rfl (by kernel_rfl) (by kernel_rfl) (by kernel_rfl) (fun _ _ _ h => h) (by rfl) (fun W hW => ?yr3) ?_
    case yr3 =>
      have h1 := (hW.cell (p := ⟨k, 0, none⟩) y0).trans yd1
      go_simp <;> with_reducible rfl
    simp only [Act.put, List.setIfInBounds_toArray, List.set_cons_zero, List.set_cons_succ]
    refine grow_take 4 (some 31) (v := ?vr4) rfl rfl (by kernel_rfl) (by kernel_rfl) (by kernel_rfl) (fun _ _ _ h => h) (by rfl) (fun W hW => ?yr4) ?_
    case yr4 =>
      go_simp <;> with_reducible rfl
    simp only [Act.put, List.setIfInBounds_toArray, List.set_cons_zero, List.set_cons_succ]
    refine grow_take 5 (some 32) (v := ?vr5) rfl rfl (by kernel_rfl) (by kernel_rfl) (by kernel_rfl) (fun _ _ _ h => h) (by rfl) (fun W hW => ?yr5) ?_
    case yr5 =>
      have h1 := (hW.cell (p := ⟨h, 0, none⟩) x0).trans xd1
      go_simp <;> with_reducible rfl
    simp only [Act.put, List.setIfInBounds_toArray, List.set_cons_zero, List.set_cons_succ]
    refine grow_only 6 rfl (by kernel_rfl) (fun K hK => ?_)
    go_simp
    refine (HTr.out _).mono ?_
    rintro e w5 ⟨rfl, hw5⟩
    obtain rfl := hw5.symm
    refine hK.out _ _ (Below.refl _ _) ?_
    clear hK K hw5
    try simp only [Act.put, List.setIfInBounds_toArray, List.set_cons_zero, List.set_cons_succ]
    refine grow_only 7 rfl (by kernel_rfl) (fun K hK => ?_)
    go_simp
    refine (HU.out _ HTd.out).mono ?_
    rintro e w6 ⟨rfl, hb6⟩
    refine hK.out _ _ hb6 ?_
    have HB6 := hide (HBd.out.trans (hb6.mono HBd.out.size))
    clear hK K hb6 HBd
    try simp only [Act.put, List.setIfInBounds_toArray, List.set_cons_zero, List.set_cons_succ]
    refine grow_take 8 (some 35) (v := ?vr8) rfl rfl (by kernel_rfl) (by kernel_rfl) (by kernel_rfl) (fun _ _ _ h => h) (by rfl) (fun W hW => ?yr8) ?_
    case yr8 =>
      go_simp <;> with_reducible rfl
    simp only [Act.put, List.setIfInBounds_toArray, List.set_cons_zero, List.set_cons_succ]
    refine grow_take 9 (some 4) (v := ?vr9) rfl rfl (by kernel_rfl) (by kernel_rfl) (by kernel_rfl) (fun _ _ _ h => h) (by rfl) (fun W hW => ?yr9) ?_
    case yr9 =>
      go_simp <;> with_reducible rfl
    simp only [Act.put, List.setIfInBounds_toArray, List.set_cons_zero, List.set_cons_succ]
    refine grow_done (by kernel_rfl) ?_ _
    go_wp2
    go_ret
    exact ⟨rfl, HB6.out⟩
  | true =>
    rw [Bool.not_true] at q0'
    clear HU HTr
    go_enter Tryz.func26, Tryz.ntmps26
    go_upto_region 1 with fail
    rw [Hw1.out, Hw2.out]
    try rw [Hs1.out]
    rw [Hk.out, Hh.out]
    obtain ⟨x0, x1, x2, x3, x4, x5⟩ := HX.out
    obtain ⟨y0, y1, y2, y3, y4⟩ := HY.out
    go_wp2
    go_quiet (fail)
    go_wp2
    go_ret
    exact ⟨rfl, Below.drewN HB.out _⟩

theorem about_no {r : Ru} {q : Qn} (h : ¬ (andI r.rts q.right ≠ 0 ∧ (r.att = [] ∨ r.att = q.t))) : aboutV r q = false := by
  unfold aboutV
  rw [decide_eq_false h]
  rfl
theorem about_yes {r : Ru} {q : Qn} (h : andI r.rts q.right ≠ 0 ∧ (r.att = [] ∨ r.att = q.t)) : aboutV r q = (isV r.who q.s q.n && underV q.n r.tgt) := by
  unfold aboutV
  rw [decide_eq_true h]
  rfl

set_option maxRecDepth 100000 in
set_option maxHeartbeats 32000000 in
theorem isabout_any (r : Ru) (q : Qn) (hr : r.small) (hq : q.s.length ≤ 1000000) (hn : q.n.length ≤ 1000000) (w : World) (hT : TM w) :
    Calls Tryz.prog 16 #[.agg #[.string (txt r.who), .string (txt r.tgt), .string (txt r.att), .int .i64 r.rts, .bool r.alw], .agg #[.string (txt q.s), .string (txt q.n), .string (txt q.t), .int .i64 q.right]] w fun e w' => e = .returned (.bool (aboutV r q)) ∧ Below w.heap.size w w' := by
  unfold Ru.small at hr
  have HI := hide (fun w hT => isof_any r q (by omega) hq w hT)
  have HU := hide (fun w hT => punder_text q.n r.tgt hn (by omega) w hT)
  have hb1 := below1 w (.cells #[.string (txt r.who), .string (txt r.tgt), .string (txt r.att), .int .i64 r.rts, .bool r.alw] 35)
  have hX := Box5.new w (txt r.who) (txt r.tgt) (txt r.att) r.rts r.alw 35
  have hb2 := below1 (w.alloc (.cells #[.string (txt r.who), .string (txt r.tgt), .string (txt r.att), .int .i64 r.rts, .bool r.alw] 35)) (.cells #[.string (txt q.s), .string (txt q.n), .string (txt q.t), .int .i64 q.right] 43)
  have hY := Box4.new (w.alloc (.cells #[.string (txt r.who), .string (txt r.tgt), .string (txt r.att), .int .i64 r.rts, .bool r.alw] 35)) (txt q.s) (txt q.n) (txt q.t) q.right 43
  have hX2 := hX.grow hb2
  have hbb := hb1.trans (hb2.mono hb1.size)
  have hT2 := (hT.below hb1).below hb2
  obtain ⟨w1, hw1⟩ : ∃ w1, w.alloc (.cells #[.string (txt r.who), .string (txt r.tgt), .string (txt r.att), .int .i64 r.rts, .bool r.alw] 35) = w1 := ⟨_, rfl⟩
  have hs1 : w1.heap.size = w.heap.size + 1 := by rw [← hw1]; simp
  rw [hw1] at hY hX2 hbb hT2
  rw [hs1] at hY
  obtain ⟨w2, hw2⟩ : ∃ w2, w1.alloc (.cells #[.string (txt q.s), .string (txt q.n), .string (txt q.t), .int .i64 q.right] 43) = w2 := ⟨_, rfl⟩
  rw [hw2] at hY hX2 hbb hT2
  obtain ⟨h, hh⟩ : ∃ h, w.heap.size = h := ⟨_, rfl⟩
  obtain ⟨k, hk⟩ : ∃ k, w.heap.size + 1 = k := ⟨_, rfl⟩
  rw [hh] at hX2
  rw [hk] at hY
  have HX := hide hX2
  have HY := hide hY
  have HB := hide hbb
  have HT := hide hT2
  have Hw1 := hide hw1
  have Hw2 := hide hw2
  have Hs1 := hide hs1
  have Hh := hide hh
  have Hk := hide hk
  clear hb1 hX hb2 hY hX2 hbb hT2 hw1 hs1 hw2 hh hk hT
  clear hr hq hn
  have q0 := toeq r.att []
  have q0' : ((txt r.att).toList != []) = !(r.att == []) := by unfold bne; rw [q0]
  have q1 : ((txt r.att).toList == (txt q.t).toList) = (r.att == q.t) := by rw [txt_bytes, txt_bytes]
  have q1' : ((txt r.att).toList != (txt q.t).toList) = !(r.att == q.t) := by unfold bne; rw [q1]
  have hab := @about_no r q
  have haa := @about_yes r q
  by_cases h0 : andI r.rts q.right = 0
  · rw [hab fun h => h.1 h0]
    have z0 := h0
    unfold andI at z0
    have z1 : (IntKind.i64.wrap ((BitVec.ofInt IntKind.i64.bits r.rts &&& BitVec.ofInt IntKind.i64.bits q.right).toNat : Int) == 0) = true := by rw [z0]; rfl
    clear hab haa h0 q0 q0' q1 q1' HI HU
    generalize txt r.who = SW at *
    generalize txt r.tgt = ST at *
    generalize txt r.att = SA at *
    generalize r.rts = x at *
    generalize r.alw = al at *
    generalize txt q.s = QS at *
    generalize txt q.n = QN at *
    generalize txt q.t = QT at *
    generalize q.right = z at *
    go_enter Tryz.func16, Tryz.ntmps16
    go_upto_region 1 with fail
    rw [Hw1.out, Hw2.out]
    try rw [Hs1.out]
    rw [Hk.out, Hh.out]
    obtain ⟨x0, x1, x2, x3, x4, x5⟩ := HX.out
    obtain ⟨y0, y1, y2, y3, y4⟩ := HY.out
    go_wp2
    go_ret
    exact ⟨rfl, HB.out⟩
  have z0 := h0
  unfold andI at z0
  have z1 : (IntKind.i64.wrap ((BitVec.ofInt IntKind.i64.bits r.rts &&& BitVec.ofInt IntKind.i64.bits q.right).toNat : Int) == 0) = false := beq_false_of_ne z0
  by_cases ha : r.att = [] ∨ r.att = q.t
  · rw [haa ⟨h0, ha⟩]
    obtain ⟨b0, hb0⟩ : ∃ b0, (r.att == []) = b0 := ⟨_, rfl⟩
    obtain ⟨b1, hb1⟩ : ∃ b1, (r.att == q.t) = b1 := ⟨_, rfl⟩
    have hor : b0 = true ∨ b1 = true := by
      rcases ha with h | h
      · left; rw [← hb0, h]; rfl
      · right; rw [← hb1, h]; simp
    rw [hb0] at q0 q0'
    rw [hb1] at q1 q1'
    generalize isV r.who q.s q.n = ib at *
    generalize underV q.n r.tgt = ub at *
    clear hab haa h0 ha hb0 hb1
    generalize txt r.who = SW at *
    generalize txt r.tgt = ST at *
    generalize txt r.att = SA at *
    generalize r.rts = x at *
    generalize r.alw = al at *
    generalize txt q.s = QS at *
    generalize txt q.n = QN at *
    generalize txt q.t = QT at *
    generalize q.right = z at *
    have hor' : (b0 = true ∧ b1 = true) ∨ (b0 = true ∧ b1 = false) ∨ (b0 = false ∧ b1 = true) := by cases b0 <;> cases b1 <;> simp_all
    clear hor
    rcases hor' with ⟨rfl, rfl⟩ | ⟨rfl, rfl⟩ | ⟨rfl, rfl⟩
    all_goals cases ib
    all_goals
      go_enter Tryz.func16, Tryz.ntmps16
      go_upto_region 1 with fail
      rw [Hw1.out, Hw2.out]
      try rw [Hs1.out]
      rw [Hk.out, Hh.out]
      obtain ⟨x0, x1, x2, x3, x4, x5⟩ := HX.out
      obtain ⟨y0, y1, y2, y3, y4⟩ := HY.out
      go_wp2_with (go_at_call 26; fail)
      refine (HI.out _ HT.out).mono ?_
      rintro e w3 ⟨rfl, hb3⟩
      have yd2 := (hb3.cell (p := ⟨k, 1, none⟩) y0).trans y2
      have xd2 := (hb3.cell (p := ⟨h, 1, none⟩) x0).trans x2
      have HB3 := hide (HB.out.trans (hb3.mono HB.out.size))
      have HT3 := hide (HT.out.below hb3)
      clear hb3 HB HT HI x0 x1 x2 x3 x4 x5 y0 y1 y2 y3 y4
      first
        | (go_wp2_with (go_at_call 27; fail)
           refine (HU.out _ HT3.out).mono ?_
           rintro e w4 ⟨rfl, hb4⟩
           have HB4 := hide (HB3.out.trans (hb4.mono HB3.out.size))
           clear hb4 HB3 HT3 HU
           go_wp2
           go_ret
           exact ⟨rfl, HB4.out⟩)
        | (go_wp2
           go_ret
           exact ⟨rfl, HB3.out⟩)
  · rw [hab fun h => ha h.2]
    rw [show (r.att == []) = false by simpa using fun h => ha (Or.inl h)] at q0 q0'
    rw [show (r.att == q.t) = false by simpa using fun h => ha (Or.inr h)] at q1 q1'
    clear hab haa h0 ha HI HU
    generalize txt r.who = SW at *
    generalize txt r.tgt = ST at *
    generalize txt r.att = SA at *
    generalize r.rts = x at *
    generalize r.alw = al at *
    generalize txt q.s = QS at *
    generalize txt q.n = QN at *
    generalize txt q.t = QT at *
    generalize q.right = z at *
    go_enter Tryz.func16, Tryz.ntmps16
    go_upto_region 1 with fail
    rw [Hw1.out, Hw2.out]
    try rw [Hs1.out]
    rw [Hk.out, Hh.out]
    obtain ⟨x0, x1, x2, x3, x4, x5⟩ := HX.out
    obtain ⟨y0, y1, y2, y3, y4⟩ := HY.out
    go_wp2
    go_ret
    exact ⟨rfl, HB.out⟩

end Go.Proofs.YtilggbfjdglaaaaGreatDoor
