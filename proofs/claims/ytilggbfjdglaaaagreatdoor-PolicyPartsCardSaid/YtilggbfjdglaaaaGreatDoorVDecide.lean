/-
  The program's Decide. By an AI agent.
-/
import Derived.Test.YtilggbfjdglaaaaGreatDoorVIs
namespace Go.Proofs.YtilggbfjdglaaaaGreatDoor
open Go.RowKit
set_option linter.unusedVariables false

theorem agg4 {A B C A' B' C' : ByteArray} {r r' : Int} (h : Value.agg #[.string A, .string B, .string C, .int .i64 r] = .agg #[.string A', .string B', .string C', .int .i64 r']) : A = A' ∧ B = B' ∧ C = C' ∧ r = r' := by
  injection h with h
  have h := congrArg Array.toList h
  simp only [List.cons.injEq, Value.string.injEq, Value.int.injEq, and_true, true_and] at h
  exact h

theorem norm_short (l : List UInt8) : (normT l).1.length ≤ 1000 := by
  cases pt l with
  | no e he h => rw [norm_no' h]; simp
  | ok T ho h => rw [norm_yes' h]; exact ho.len
theorem first_drop {L : List Ru} {i : Nat} {r : Ru} (h : L[i]? = some r) (q : Qn) : firstV (L.drop i) q = if aboutV r q = true then r.alw else firstV (L.drop (i + 1)) q := by
  have hi := (List.getElem?_eq_some_iff.1 h)
  obtain ⟨h1, h2⟩ := hi
  rw [List.drop_eq_getElem_cons h1, h2]
  rfl

set_option maxRecDepth 100000 in
set_option maxHeartbeats 64000000 in
theorem decide_any (L : List Ru) (s : List UInt8) (right : Int) (n a : List UInt8) (w : World) (A : Option Addr) (m c : Nat) (hA : Has w w.heap.size 5 A m (rusC L)) (hsm : ∀ r ∈ L, r.small) (hs : s.length ≤ 1000000) (hn : n.length ≤ 1000000) (hm : m ≤ 1000000) (hT : TM w) :
    Calls Tryz.prog 9 #[.slice A m c, .string (txt s), .int .i64 right, .string (txt n), .string (txt a)] w fun e w' => e = .returned (.bool (decideV L s right n a)) ∧ Below w.heap.size w w' := by
  have hK := fun w hT => ask_any s right n a hs hn w hT
  have hF := fun w hA hT => rusformed_any L w A m c hA hsm hm hT
  have hml := hA.rules_n
  by_cases hP : AskP s right n a
  · by_cases hL : AllP L
    · rw [decide_yes hP hL]
      rw [Tr_yes hL] at hF
      have h1 := norm_short s
      have h2 := norm_short n
      have hq1 : (askV s right n a).s.length ≤ 1000000 := by show (normT s).1.length ≤ _; omega
      have hq2 : (askV s right n a).n.length ≤ 1000000 := by show (normT n).1.length ≤ _; omega
      have HAb := hide (fun r (hr : r ∈ L) w hT => isabout_any r (askV s right n a) (hsm r hr) hq1 hq2 w hT)
      obtain ⟨D, hD⟩ : ∃ D, firstV L (askV s right n a) = D := ⟨_, rfl⟩
      rw [hD]
      have HD := hide hD
      have HML := hide hml
      have HK := hide (hK w hT)
      have HF := hide hF
      have HP := hide hP
      have HA := hide hA
      have HT := hide hT
      have Hm := hide hm
      clear hK hF hA hs hn hP hL h1 h2 hq1 hq2 hD hT hml hsm
      obtain ⟨q, hq⟩ : ∃ q, askV s right n a = q := ⟨_, rfl⟩
      rw [hq] at HAb HD
      have Hq := hide hq
      clear hq
      generalize txt s = S at *
      generalize txt n = U at *
      generalize txt a = V at *
      go_enter Tryz.func9, Tryz.ntmps9
      go_wp2_with (go_at_call 14; fail)
      refine HK.out.mono ?_
      rintro e w1 hpost
      obtain ⟨QS, QN, QT, z, ok, rfl, hyes, _, hb1⟩ := hpost.out
      obtain ⟨rfl, hv⟩ := hyes HP.out
      rw [Hq.out] at hv
      obtain ⟨rfl, rfl, rfl, rfl⟩ := agg4 hv
      clear Hq
      have hb2 := below1 w1 (.cells #[.string (txt q.s), .string (txt q.n), .string (txt q.t), .int .i64 q.right] 43)
      have hY := Box4.new w1 (txt q.s) (txt q.n) (txt q.t) q.right 43
      have HB2 := hide (hb1.trans (hb2.mono hb1.size))
      have HT2 := hide ((HT.out.below hb1).below hb2)
      have HA2 := hide ((HA.out.below HB2.out).upto HB2.out.size)
      clear hpost hyes hv hb1 HK hb2
      have HAb' : Hid (∀ r ∈ L, ∀ w, TM w → Calls Tryz.prog 16 #[.agg #[.string (txt r.who), .string (txt r.tgt), .string (txt r.att), .int .i64 r.rts, .bool r.alw], .agg #[.string (txt q.s), .string (txt q.n), .string (txt q.t), .int .i64 q.right]] w fun e w' => e = .returned (.bool (aboutV r q)) ∧ Below w.heap.size w w') := HAb
      clear HAb HP
      generalize txt q.s = QS at *
      generalize txt q.n = QN at *
      generalize txt q.t = QT at *
      generalize q.right = z at *
      go_wp2_with (go_at_call 15; fail)
      refine (HF.out _ HA2.out HT2.out).mono ?_
      rintro e w3 ⟨rfl, hb3⟩
      have HY3 := hide (hY.grow hb3)
      have HB3 := hide (HB2.out.trans (hb3.mono HB2.out.size))
      have HT3 := hide (HT2.out.below hb3)
      have HA3 := hide ((HA2.out.below hb3).upto hb3.size)
      clear hY hb3 HB2 HT2 HA2 HF HA HT
      generalize w1.heap.size = hq at *
      go_wp2
      go_loopg [32] m (fun k s32 wx => ∃ i : Nat, i + k = m ∧ s32 = .int .i64 (i : Int) ∧ Hid (firstV (L.drop i) q = D) ∧ Below w3.heap.size w3 wx)
      case atStart => exact ⟨0, by omega, rfl, hide (by rw [List.drop_zero]; exact HD.out), Below.refl _ _⟩
      case round =>
        obtain ⟨i, hig, rfl, hpre, hbr⟩ := hrel
        cases gk with
        | zero =>
          obtain rfl : i = m := by omega
          have hiz : ¬ ((i : Int) < (i : Int)) := by omega
          have hp := hpre.out
          rw [List.drop_eq_nil_of_le (by rw [HML.out]; exact Nat.le_refl _)] at hp
          have hD0 : Hid (D = false) := hide hp.symm
          have HE := hide (HB3.out.trans (hbr.mono HB3.out.size))
          clear hp hpre HAb' HY3 HB3 HT3 HA3 HD HML hbr
          go_wp2
          go_ret
          exact ⟨by rw [hD0.out]; rfl, HE.out⟩
        | succ k =>
          have hi : i < m := by omega
          have hiz : (i : Int) < (m : Int) := by omega
          obtain ⟨r, hr⟩ : ∃ r, L[i]? = some r := ⟨_, List.getElem?_eq_getElem (by rw [← HML.out]; exact hi)⟩
          obtain ⟨g, o, hAe, hg, hat⟩ := HA3.out.rule (fun h => by rw [h] at hr; simp at hr)
          subst hAe
          obtain ⟨c0, c1, c2, c3, c4⟩ := (hat i r hr).below hg hbr
          obtain ⟨y5, y0, y1, y2, y3⟩ := HY3.out.below HY3.out.lt hbr
          have hcall := HAb'.out r (List.mem_of_getElem? hr)
          have hfd := first_drop hr q
          rw [hpre.out] at hfd
          have hbx := below1 wr (.cells #[.string (txt r.who), .string (txt r.tgt), .string (txt r.att), .int .i64 r.rts, .bool r.alw] 35)
          obtain ⟨x5, x0, x1, x2, x3, x4⟩ := Box5.new wr (txt r.who) (txt r.tgt) (txt r.att) r.rts r.alw 35
          have v0 := (hbx.cell (p := ⟨hq, 0, none⟩) y5).trans y0
          have v1 := (hbx.cell (p := ⟨hq, 1, none⟩) y5).trans y1
          have v2 := (hbx.cell (p := ⟨hq, 2, none⟩) y5).trans y2
          have v3 := (hbx.cell (p := ⟨hq, 3, none⟩) y5).trans y3
          have hbr1 := hbr.trans (hbx.mono hbr.size)
          have hTr := HT3.out.below hbr1
          have HX5 := hide x5
          obtain ⟨ab, hab⟩ : ∃ ab, aboutV r q = ab := ⟨_, rfl⟩
          rw [hab] at hcall hfd
          have Hfd := hide hfd
          have Hr := hide hr
          clear hat hr hab hpre hfd hbx y0 y1 y2 y3 y5 x5
          cases ab with
          | true =>
            generalize txt r.who = SW at *
            generalize txt r.tgt = ST at *
            generalize txt r.att = SA at *
            generalize r.rts = x at *
            have hal := Hfd.out
            rw [if_pos rfl] at hal
            have Hal := hide hal
            clear hal Hfd
            generalize r.alw = al at *
            go_wp2_with (go_at_call 16; fail)
            refine (hcall _ hTr).mono ?_
            rintro e w5 ⟨rfl, hb5⟩
            have d4 := (hb5.cell (p := ⟨wr.heap.size, 4, none⟩) HX5.out).trans x4
            have HE := hide (HB3.out.trans ((hbr1.trans (hb5.mono hbr1.size)).mono HB3.out.size))
            clear hcall hTr hb5 hbr1 hbr c0 c1 c2 c3 c4 x0 x1 x2 x3 x4 v0 v1 v2 v3 HX5 HB3
            go_wp2
            go_ret
            exact ⟨by rw [Hal.out]; rfl, HE.out⟩
          | false =>
            have hnx := Hfd.out
            rw [if_neg (by simp)] at hnx
            have Hnx := hide hnx.symm
            clear hnx Hfd
            generalize txt r.who = SW at *
            generalize txt r.tgt = ST at *
            generalize txt r.att = SA at *
            generalize r.rts = x at *
            generalize r.alw = al at *
            go_wp2_with (go_at_call 16; fail)
            refine (hcall _ hTr).mono ?_
            rintro e w5 ⟨rfl, hb5⟩
            have hbn := hbr1.trans (hb5.mono hbr1.size)
            clear hcall hTr hb5 hbr1 hbr c0 c1 c2 c3 c4 x0 x1 x2 x3 x4 v0 v1 v2 v3 HX5
            go_wp2
            go_roundg k
            case measure => omega
            case rel => exact ⟨i + 1, by omega, by go_num, Hnx, hbn⟩
    · rw [decide_no fun h => hL h.2]
      rw [Tr_no hL] at hF
      have HK := hide (hK w hT)
      have HF := hide hF
      have HA := hide hA
      have HT := hide hT
      have HP := hide hP
      clear hK hF hA hs hn hP hL hT hml hsm
      generalize txt s = S at *
      generalize txt n = U at *
      generalize txt a = V at *
      go_enter Tryz.func9, Tryz.ntmps9
      go_wp2_with (go_at_call 14; fail)
      refine HK.out.mono ?_
      rintro e w1 hpost
      obtain ⟨QS, QN, QT, z, ok, rfl, hyes, _, hb1⟩ := hpost.out
      obtain ⟨rfl, _⟩ := hyes HP.out
      have hb2 := below1 w1 (.cells #[.string QS, .string QN, .string QT, .int .i64 z] 43)
      have HB2 := hide (hb1.trans (hb2.mono hb1.size))
      have HT2 := hide ((HT.out.below hb1).below hb2)
      have HA2 := hide ((HA.out.below HB2.out).upto HB2.out.size)
      clear hpost hyes hb1 HK hb2 HP HA HT
      go_wp2_with (go_at_call 15; fail)
      refine (HF.out _ HA2.out HT2.out).mono ?_
      rintro e w3 ⟨rfl, hb3⟩
      have HB3 := hide (HB2.out.trans (hb3.mono HB2.out.size))
      clear hb3 HB2 HT2 HA2 HF
      go_wp2
      go_ret
      exact ⟨rfl, HB3.out⟩
  · rw [decide_no fun h => hP h.1]
    have HK := hide (hK w hT)
    have HP := hide hP
    clear hK hF hA hs hn hP hT hml hsm
    generalize txt s = S at *
    generalize txt n = U at *
    generalize txt a = V at *
    go_enter Tryz.func9, Tryz.ntmps9
    go_wp2_with (go_at_call 14; fail)
    refine HK.out.mono ?_
    rintro e w1 hpost
    obtain ⟨QS, QN, QT, z, ok, rfl, _, hno, hb1⟩ := hpost.out
    obtain rfl := hno HP.out
    have hb2 := below1 w1 (.cells #[.string QS, .string QN, .string QT, .int .i64 z] 43)
    have HB2 := hide (hb1.trans (hb2.mono hb1.size))
    clear hpost hno hb1 HK hb2 HP
    go_wp2
    go_ret
    exact ⟨rfl, HB2.out⟩

end Go.Proofs.YtilggbfjdglaaaaGreatDoor
