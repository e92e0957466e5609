/-
  formedPair, Formed: whether pairs are a part, by the program. By an AI agent.
-/
import Derived.Test.YtihoachcpabkeaaGreatDoorPRPair
import Derived.Test.YtihoachcpabkeaaGreatDoorPRows
import Derived.Sort.Walk0
namespace Go.Proofs.YtihoachcpabkeaaGreatDoor
open Go.RowKit
set_option linter.unusedVariables false

open Classical in
/-- Whether a pair may be in a part; whether pairs are one. -/
noncomputable def okB (a : P2) : Bool := decide (PairOk a)
open Classical in
noncomputable def partB (l : List P2) : Bool := decide (PartOk l)
open Classical in
theorem okB_true {a : P2} (h : PairOk a) : okB a = true := by unfold okB; exact decide_eq_true h
open Classical in
theorem okB_false {a : P2} (h : ¬ PairOk a) : okB a = false := by unfold okB; exact decide_eq_false h
open Classical in
theorem partB_true {l : List P2} (h : PartOk l) : partB l = true := by unfold partB; exact decide_eq_true h
open Classical in
theorem partB_false {l : List P2} (h : ¬ PartOk l) : partB l = false := by unfold partB; exact decide_eq_false h

theorem str_eq {a b : List UInt8} (h : a = b) : ((txt a).toList == (txt b).toList) = true := by rw [txt_bytes, txt_bytes, h]; simp
theorem str_ne {a b : List UInt8} (h : a ≠ b) : ((txt a).toList == (txt b).toList) = false := by rw [txt_bytes, txt_bytes]; simpa using h

theorem less_yes {a b : List UInt8} (h : a < b) : Op.bytesLess a b = true := by rw [bytesLess_eq]; exact decide_eq_true h
theorem less_no {a b : List UInt8} (h : ¬ a < b) : Op.bytesLess a b = false := by rw [bytesLess_eq]; exact decide_eq_false h

set_option maxRecDepth 100000 in
set_option maxHeartbeats 16000000 in
theorem fpair_any (a : P2) (h2 : a.2.length ≤ 1000000) (w : World) (hT : TT w) :
    Calls Tryz.prog 24 #[.agg #[.string (txt a.1), .string (txt a.2)]] w fun e w' => e = .returned (.bool (okB a)) ∧ Below w.heap.size w w' := by
  have hTy := fun w hT => type_any (txt a.1) w hT
  have hNo := fun w hT => normal_any (txt a.1) (txt a.2) (by rw [txt_size]; omega) w hT
  simp only [txt_toList] at hTy hNo
  have hP0 := Bx.new w (txt a.1) (txt a.2) 43
  have hbw := below1 w (.cells #[.string (txt a.1), .string (txt a.2)] 43)
  have hTw := hT.below hbw
  obtain ⟨R, hR⟩ : ∃ R, okB a = R := ⟨_, rfl⟩
  rw [hR]
  by_cases hn : (typ a.1).1 = a.1
  · rw [hn] at hTy
    by_cases h13 : (typ a.1).2 = 1 ∨ (typ a.1).2 = 3
    · have hRv : Hid (R = ((norm a.1 a.2).2 == 0)) := hide (by
        rw [← hR]
        by_cases h0 : (norm a.1 a.2).2 = 0
        · rw [okB_true ⟨hn, h13, h0⟩, h0]; rfl
        · rw [okB_false fun h => h0 h.val]
          exact (beq_false_of_ne h0).symm)
      generalize (typ a.1).2 = x at *
      generalize (norm a.1 a.2).2 = y at *
      generalize txt (norm a.1 a.2).1 = Y at *
      generalize txt a.1 = U at *
      generalize txt a.2 = V at *
      clear hR hn
      rcases h13 with rfl | rfl
      all_goals
        go_enter Tryz.func24, Tryz.ntmps24
        obtain ⟨c0, c1, hlt, _, _⟩ := hP0
        go_wp2_with (go_at_call 33; fail)
        refine (hTy _ hTw.types).mono ?_
        rintro e w2 ⟨rfl, hb2⟩
        have hc2 := hbw.trans (hb2.mono hbw.size)
        have d0 := (hb2.cell (p := ⟨w.heap.size, 0, none⟩) hlt).trans c0
        have d1 := (hb2.cell (p := ⟨w.heap.size, 1, none⟩) hlt).trans c1
        have hT2 := hTw.below hb2
        clear hb2 c0 c1 hTy hTw hbw
        go_wp2_with (go_at_call 34; fail)
        refine (hNo _ hT2).mono ?_
        rintro e w3 ⟨rfl, hb3⟩
        have hc3 := hc2.trans (hb3.mono hc2.size)
        clear hb3 d0 d1 hNo hT2
        go_wp2
        go_ret
        exact ⟨by rw [hRv.out]; rfl, hc3⟩
    · have hRv : Hid (R = false) := hide (by rw [← hR]; exact okB_false fun h => h13 h.syn)
      have e1 : ((typ a.1).2 == 1) = false := beq_false_of_ne fun h => h13 (Or.inl h)
      have e3 : ((typ a.1).2 == 3) = false := beq_false_of_ne fun h => h13 (Or.inr h)
      have n1 : ((typ a.1).2 != 1) = true := by unfold bne; rw [e1]; rfl
      have n3 : ((typ a.1).2 != 3) = true := by unfold bne; rw [e3]; rfl
      generalize (typ a.1).2 = x at *
      generalize txt a.1 = U at *
      generalize txt a.2 = V at *
      clear hR hn hNo h13
      go_enter Tryz.func24, Tryz.ntmps24
      obtain ⟨c0, c1, hlt, _, _⟩ := hP0
      go_wp2_with (go_at_call 33; fail)
      refine (hTy _ hTw.types).mono ?_
      rintro e w2 ⟨rfl, hb2⟩
      have hc2 := hbw.trans (hb2.mono hbw.size)
      have d0 := (hb2.cell (p := ⟨w.heap.size, 0, none⟩) hlt).trans c0
      clear hb2 c0 c1 hTy hTw hbw
      go_wp2
      go_ret
      exact ⟨by rw [hRv.out]; rfl, hc2⟩
  · have hRv : Hid (R = false) := hide (by rw [← hR]; exact okB_false fun h => hn h.name)
    have hne := str_ne hn
    generalize (typ a.1).2 = x at *
    generalize txt (typ a.1).1 = M at *
    generalize txt a.1 = U at *
    generalize txt a.2 = V at *
    clear hR hn hNo
    go_enter Tryz.func24, Tryz.ntmps24
    obtain ⟨c0, c1, hlt, _, _⟩ := hP0
    go_wp2_with (go_at_call 33; fail)
    refine (hTy _ hTw.types).mono ?_
    rintro e w2 ⟨rfl, hb2⟩
    have hc2 := hbw.trans (hb2.mono hbw.size)
    have d0 := (hb2.cell (p := ⟨w.heap.size, 0, none⟩) hlt).trans c0
    clear hb2 c0 c1 hTy hTw hbw
    go_wp2
    go_ret
    exact ⟨by rw [hRv.out]; rfl, hc2⟩

/-- All looks so far were good. -/
def Good (l : List P2) (i : Nat) : Prop := ∀ j a, j < i → l[j]? = some a → PairOk a ∧ (0 < j → ∀ b, l[j - 1]? = some b → b.1 < a.1)
theorem Good.zero (l : List P2) : Good l 0 := fun j a h => by omega
theorem Good.more {l : List P2} {i : Nat} {a : P2} (h : Good l i) (ha : l[i]? = some a) (h1 : PairOk a) (h2 : 0 < i → ∀ b, l[i - 1]? = some b → b.1 < a.1) : Good l (i + 1) := by
  intro j c hj hc
  by_cases he : j = i
  · subst he
    rw [ha] at hc
    obtain rfl := Option.some.inj hc
    exact ⟨h1, h2⟩
  · exact h j c (by omega) hc
theorem Good.done {l : List P2} (h : Good l l.length) (h1 : 1 ≤ l.length) (h3 : l.length ≤ 3) : PartOk l :=
  (part_iff l).2 ⟨⟨h1, h3⟩, fun i a ha => h i a (List.getElem?_eq_some_iff.1 ha).1 ha⟩
theorem not_pair {l : List P2} {i : Nat} {a : P2} (ha : l[i]? = some a) (h : ¬ PairOk a) : ¬ PartOk l := fun hp => h (((part_iff l).1 hp).2 i a ha).1
theorem not_less {l : List P2} {i : Nat} {a b : P2} (ha : l[i]? = some a) (hi : 0 < i) (hb : l[i - 1]? = some b) (h : ¬ b.1 < a.1) : ¬ PartOk l := fun hp => h ((((part_iff l).1 hp).2 i a ha).2 hi b hb)

set_option maxRecDepth 100000 in
set_option maxHeartbeats 16000000 in
theorem pformed_any (w : World) (A : Option Addr) (n c : Nat) (l : List P2) (h : Has w w.heap.size 2 A n (prs l)) (hn : n ≤ 10000) (hs : ∀ a ∈ l, a.2.length ≤ 1000000) (hT : TT w) :
    Calls Tryz.prog 13 #[.slice A n c] w fun e w' => e = .returned (.bool (partB l)) ∧ Below w.heap.size w w' := by
  have hnl := h.pairs_n
  obtain ⟨R, hR⟩ : ∃ R, partB l = R := ⟨_, rfl⟩
  rw [hR]
  replace hR := hide hR
  by_cases h13 : 1 ≤ n ∧ n ≤ 3
  · obtain ⟨g, o, rfl, hg, hrd⟩ := h.reads (by rintro rfl; simp at hnl; omega)
    have z1 : ¬ ((n : Int) < 1) := by omega
    have z3 : ¬ ((3 : Int) < (n : Int)) := by omega
    have HL := hide hnl
    have HR := hide hrd
    have HS := hide hs
    clear hnl h hrd hs
    go_enter Tryz.func13, Tryz.ntmps13
    go_wp2
    go_loopg [15] n (fun k s15 wx => ∃ i : Nat, i + k = n ∧ s15 = .int .i64 (i : Int) ∧ Hid (Good l i) ∧ Below w.heap.size w wx)
    case atStart => exact ⟨0, by omega, rfl, hide (Good.zero l), Below.refl _ _⟩
    case round =>
      obtain ⟨i, hig, rfl, hG, hbr⟩ := hrel
      cases gk with
      | zero =>
        obtain rfl : i = n := by omega
        have hiz : ¬ ((i : Int) < (i : Int)) := by omega
        have hRt : Hid (R = true) := hide (by
          rw [← hR.out]
          have h1 := hG.out
          have h2 := HL.out
          rw [h2] at h1
          exact partB_true (h1.done (by omega) (by omega)))
        clear hG hR HL HR HS
        go_wp2
        go_ret
        exact ⟨by rw [hRt.out]; rfl, hbr⟩
      | succ k =>
        have hi : i < n := by omega
        have hiz : (i : Int) < (n : Int) := by omega
        obtain ⟨a, ha⟩ : ∃ a, l[i]? = some a := ⟨_, List.getElem?_eq_getElem (by rw [← HL.out]; exact hi)⟩
        have c0 := (hbr.cell (p := ⟨g, o + i * 2, none⟩) hg).trans (HR.out.fst i a ha)
        have c1 := (hbr.cell (p := ⟨g, o + i * 2 + 1, none⟩) hg).trans (HR.out.snd i a ha)
        have hF := fun w hT => fpair_any a (HS.out a (List.mem_of_getElem? ha)) w hT
        have Ha := hide ha
        clear ha
        generalize hU : txt a.1 = U at *
        generalize hV : txt a.2 = V at *
        have HU := hide hU
        clear hU hV
        go_wp2_with (go_at_call 24; fail)
        have hba := hbr.alloc hbr.size (.cells #[.string U, .string V] 43)
        have hbx := Bx.new wr U V 43
        refine (hF _ (hT.below hba)).mono ?_
        rintro e w2 ⟨rfl, hb2⟩
        have hb3 := hba.trans (hb2.mono hba.size)
        have d0 := (hbx.below hb2).c0
        clear hF hba hbx hb2 c0 c1
        by_cases hok : PairOk a
        · rw [okB_true hok]
          have Hok := hide hok
          clear hok
          by_cases hi0 : i = 0
          · subst hi0
            have hG2 := hide (hG.out.more Ha.out Hok.out fun h => absurd h (Nat.lt_irrefl 0))
            clear hG Ha Hok HL HR HS
            go_wp2
            go_quiet (fail)
            go_wp2
            go_roundg k
            case measure => omega
            case rel => exact ⟨0 + 1, by omega, by go_num, hG2, Below.drewN hb3 _⟩
          · obtain ⟨j, rfl⟩ : ∃ j, i = j + 1 := ⟨i - 1, by omega⟩
            obtain ⟨b, hb⟩ : ∃ b, l[j]? = some b := ⟨_, List.getElem?_eq_getElem (by rw [← HL.out]; omega)⟩
            have d1 := (hb3.cell (p := ⟨g, o + j * 2, none⟩) hg).trans (HR.out.fst j b hb)
            have hjn : (j : Int) < (n : Int) := by omega
            have hj0 : (0 : Int) < (j : Int) + 1 := by omega
            by_cases hlt : b.1 < a.1
            · have hG2 := hide (hG.out.more Ha.out Hok.out fun _ b' hb' => by
                rw [Nat.add_sub_cancel, hb] at hb'
                obtain rfl := Option.some.inj hb'
                exact hlt)
              have hbl : Op.bytesLess (txt b.1).toList U.toList = true := by rw [← HU.out, txt_bytes, txt_bytes]; exact less_yes hlt
              generalize txt b.1 = T at *
              clear hG Ha Hok HL HR HS hlt hb
              go_wp2
              go_quiet (fail)
              go_wp2
              go_roundg k
              case measure => omega
              case rel => exact ⟨j + 1 + 1, by omega, by go_num, hG2, Below.drewN hb3 _⟩
            · have hRf : Hid (R = false) := hide (by
                rw [← hR.out]
                exact partB_false (not_less Ha.out (by omega) (by rw [Nat.add_sub_cancel]; exact hb) hlt))
              have hbl : Op.bytesLess (txt b.1).toList U.toList = false := by rw [← HU.out, txt_bytes, txt_bytes]; exact less_no hlt
              generalize txt b.1 = T at *
              clear hG Ha Hok HL HR HS hlt hb
              go_wp2
              go_quiet (fail)
              go_wp2
              go_ret
              exact ⟨by rw [hRf.out]; rfl, Below.drewN hb3 _⟩
        · have hRf : Hid (R = false) := hide (by rw [← hR.out]; exact partB_false (not_pair Ha.out hok))
          rw [okB_false hok]
          clear hG Ha HL HR HS hok
          go_wp2
          go_ret
          exact ⟨by rw [hRf.out]; rfl, hb3⟩
  · have hRf : Hid (R = false) := hide (by
      rw [← hR.out]
      exact partB_false fun hp => h13 (by have h1 := hp.pos; have h2 := hp.le; omega))
    clear hR h hs
    by_cases h1 : n < 1
    · have z1 : ((n : Int) < 1) := by omega
      go_enter Tryz.func13, Tryz.ntmps13
      go_wp2
      go_ret
      exact ⟨by rw [hRf.out]; rfl, Below.refl _ _⟩
    · have z1 : ¬ ((n : Int) < 1) := by omega
      have z3 : ((3 : Int) < (n : Int)) := by omega
      go_enter Tryz.func13, Tryz.ntmps13
      go_wp2
      go_ret
      exact ⟨by rw [hRf.out]; rfl, Below.refl _ _⟩

end Go.Proofs.YtihoachcpabkeaaGreatDoor
