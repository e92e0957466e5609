/-
  The walk of PhasorBack: whatever the integers and the text, true. By an AI agent.
-/
import Derived.Test.YtmbinnahndiboaaDoorParse
import Derived.Test.YtmbinnahndiboaaDoorRefText
namespace Go.Proofs.YtmbinnahndiboaaDoor
open Go.RowKit Flt
set_option linter.unusedVariables false

theorem num_fl {a b : Int} (ha : Small a) (hb : Small b) : Num (fl a) (fl b) a b := ⟨part_fl' ha, part_fl' hb⟩

/-- What Parse and then Print give of a text: the same text, or Parse refuses it. -/
structure PP (s : ByteArray) (x y : Nat) (g : Int) (u : ByteArray) (k : Int) : Prop where
  parse : ∀ w, Tabs w → Calls Tryd.prog 14 #[.string s] w fun e w' => e = .returned (.tuple #[.complex .f64 x y, .int .i64 g]) ∧ Below w.heap.size w w'
  print : ∀ w, Tabs w → Calls Tryd.prog 10 #[.complex .f64 x y] w fun e w' => e = .returned (.tuple #[.string u, .int .i64 k]) ∧ Below w.heap.size w w'
  good : (g = 2) ∨ (g = 0 ∧ u = s)

theorem pp_any (s : ByteArray) (hs : s.size ≤ 281474976710656) : ∃ x y g u k, PP s x y g u k := by
  by_cases h : IsText s
  · obtain ⟨a, b, ha, hb, e⟩ := h
    exact ⟨fl a, fl b, 0, txt (text a b), 0, parse_yes s hs a b ha hb e, print_yes _ _ a b (num_fl ha hb), Or.inr ⟨rfl, (txt_eq e).symm⟩⟩
  · have h0 : Small 0 := ⟨by omega, by omega⟩
    have hP := print_yes _ _ 0 0 (num_fl h0 h0)
    rw [fl0] at hP
    exact ⟨0, 0, 2, _, 0, parse_no s hs h, hP, Or.inl rfl⟩

theorem tmod_small (x : Int) : Small (x.tmod 1000001) := by
  have h1 := Int.tmod_lt_of_pos x (show (0 : Int) < 1000001 by omega)
  have h2 : -1000001 < x.tmod 1000001 := by
    have := Int.tmod_lt_of_pos (-x) (show (0 : Int) < 1000001 by omega)
    rw [Int.neg_tmod] at this
    omega
  exact ⟨by omega, by omega⟩

set_option maxRecDepth 100000 in
theorem z_at (a b : Int) (w : World) :
    Calls Tryd.prog 17 #[.agg #[.int .i64 a, .int .i64 b]] w fun e w' => e = .returned (.complex .f64 (fl a) (fl b)) ∧ w' = w.alloc (.cells #[.int .i64 a, .int .i64 b] 29) := by
  go_enter Tryd.func17, Tryd.ntmps17
  go_wp2
  go_ret
  exact ⟨rfl, rfl⟩

theorem same_fl {p : Int} (h : Small p) : (FloatKind.f64.format.order (fl p) (fl p) == some .eq) = true := by
  rw [part_same (part_fl' h) (part_fl' h)]; rfl

set_option maxRecDepth 100000 in
set_option maxHeartbeats 8000000 in
theorem back_any (a b : Int) (ha : -2147483648 ≤ a ∧ a ≤ 2147483647) (hb : -2147483648 ≤ b ∧ b ≤ 2147483647) (s : ByteArray) (hs : s.size ≤ 281474976710656) (w : World) (hT : Tabs w) :
    Calls Tryd.prog 5 #[.int .i32 a, .int .i32 b, .string s] w fun e w' => e = .returned (.bool true) ∧ Below w.heap.size w w' := by
  obtain ⟨x, y, g, u, k, hpp⟩ := pp_any s hs
  have hp := tmod_small a
  have hq := tmod_small b
  have wa : wrap64 a = a := by unfold wrap64; omega
  have wb : wrap64 b = b := by unfold wrap64; omega
  generalize hpe : a.tmod 1000001 = p at hp
  generalize hqe : b.tmod 1000001 = q at hq
  have hP := print_yes _ _ p q (num_fl hp hq)
  have hR := fun (S : ByteArray) (e : S.data.toList = text p q) (hl : S.size ≤ 281474976710656) => parse_yes S hl p q hp hq e
  have hSs : (txt (text p q)).size ≤ 281474976710656 := by
    rw [txt_size]
    have h1 := itoa_len hp
    have h2 := sec_len ⟨by have := hq.lo; omega, by have := hq.hi; omega⟩ (n := q)
    rw [txt_size] at h2
    unfold text
    split
    · omega
    · split
      · omega
      · split <;> simp <;> omega
  have hSt : (txt (text p q)).data.toList = text p q := txt_toList _
  have hR' := hR _ hSt hSs
  generalize txt (text p q) = S at hP hR'
  have o1 := same_fl hp
  have o2 := same_fl hq
  have e9 : (s.toList == s.toList) = true := beq_self_eq_true _
  clear hR hSs hSt
  have hz := fun w => z_at p q w
  generalize hfp : fl p = P at *
  generalize hfq : fl q = Q at *
  clear hfp hfq hp hq ha hb
  go_enter Tryd.func5, Tryd.ntmps5
  go_wp2_with (first
    | (go_at_call 9; refine (awake_any _ hT).mono ?_; rintro e w1 ⟨rfl, hb1⟩)
    | (go_at_call 17; refine (hz _).mono ?_; rintro e w2 ⟨rfl, rfl⟩)
    | (go_at_call 10; fail))
  have hT1 := hT.below hb1
  have hb2 := hb1.trans ((below2 w1 (.cells #[.int .i64 p, .int .i64 q] 29) (.cells #[.int .i64 p, .int .i64 q] 29)).mono hb1.size)
  have hT2 := hT1.below (below2 w1 (.cells #[.int .i64 p, .int .i64 q] 29) (.cells #[.int .i64 p, .int .i64 q] 29))
  have hlt : w1.heap.size < ((w1.alloc (.cells #[.int .i64 p, .int .i64 q] 29)).alloc (.cells #[.int .i64 p, .int .i64 q] 29)).heap.size := by simp <;> omega
  have c0 : ((w1.alloc (.cells #[.int .i64 p, .int .i64 q] 29)).alloc (.cells #[.int .i64 p, .int .i64 q] 29)).cell? ⟨w1.heap.size, 0, none⟩ = some (.int .i64 p) := by
    rw [cell?_alloc_old _ (v := .int .i64 p) (by rw [World.cell?_alloc_at (hn := by simp)]; rfl)]
  have c1 : ((w1.alloc (.cells #[.int .i64 p, .int .i64 q] 29)).alloc (.cells #[.int .i64 p, .int .i64 q] 29)).cell? ⟨w1.heap.size, 1, none⟩ = some (.int .i64 q) := by
    rw [cell?_alloc_old _ (v := .int .i64 q) (by rw [World.cell?_alloc_at (hn := by simp)]; rfl)]
  generalize (w1.alloc (.cells #[.int .i64 p, .int .i64 q] 29)).alloc (.cells #[.int .i64 p, .int .i64 q] 29) = w2 at *
  generalize hB : w1.heap.size = B at *
  clear hT hT1 hb1 hB
  refine (hP _ hT2).mono ?_
  rintro e w3 ⟨rfl, hb3⟩
  have hT3 := hT2.below hb3
  have hb13 := hb2.trans (hb3.mono hb2.size)
  replace c0 := (hb3.cell (p := ⟨B, 0, none⟩) hlt).trans c0
  replace c1 := (hb3.cell (p := ⟨B, 1, none⟩) hlt).trans c1
  replace hlt := Nat.lt_of_lt_of_le hlt hb3.size
  clear hP hT2 hb2 hb3
  go_wp2_with (go_at_call 14; fail)
  refine (hR' _ hT3).mono ?_
  rintro e w4 ⟨rfl, hb4⟩
  have hT4 := hT3.below hb4
  have hb14 := hb13.trans (hb4.mono hb13.size)
  replace c0 := (hb4.cell (p := ⟨B, 0, none⟩) hlt).trans c0
  replace c1 := (hb4.cell (p := ⟨B, 1, none⟩) hlt).trans c1
  replace hlt := Nat.lt_of_lt_of_le hlt hb4.size
  clear hR' hT3 hb13 hb4
  go_wp2_with (go_at_call 14; fail)
  refine (hpp.parse _ hT4).mono ?_
  rintro e w5 ⟨rfl, hb5⟩
  have hT5 := hT4.below hb5
  have hb15 := hb14.trans (hb5.mono hb14.size)
  replace c0 := (hb5.cell (p := ⟨B, 0, none⟩) hlt).trans c0
  replace c1 := (hb5.cell (p := ⟨B, 1, none⟩) hlt).trans c1
  replace hlt := Nat.lt_of_lt_of_le hlt hb5.size
  clear hT4 hb14 hb5
  go_wp2_with (go_at_call 10; fail)
  refine (hpp.print _ hT5).mono ?_
  rintro e w6 ⟨rfl, hb6⟩
  have hb16 := hb15.trans (hb6.mono hb15.size)
  replace c0 := (hb6.cell (p := ⟨B, 0, none⟩) hlt).trans c0
  replace c1 := (hb6.cell (p := ⟨B, 1, none⟩) hlt).trans c1
  clear hT5 hb15 hb6
  have hend : ∀ o, Below w.heap.size w (w6.alloc o) := fun o => hb16.trans ((below1 w6 o).mono hb16.size)
  rcases hpp.good with rfl | ⟨rfl, rfl⟩
  · clear hpp
    go_wp2_with (go_at_call 17; refine (hz _).mono ?_; rintro e w7 ⟨rfl, rfl⟩)
    go_ret
    exact ⟨rfl, hend _⟩
  · clear hpp
    go_wp2_with (go_at_call 17; refine (hz _).mono ?_; rintro e w7 ⟨rfl, rfl⟩)
    go_ret
    exact ⟨rfl, hend _⟩

end Go.Proofs.YtmbinnahndiboaaDoor
