/-
  The document's own reckoning of a whole stream: what the machine of bytes makes of it.
-/
import Derived.Test.YtgdaangbgmmgmaaFramePure
import Derived.Test.YtgdaangbgmmgmaaFrameAwake
namespace Go.Proofs.Ytgdaangbgmmgmaa.Frame
open Go.RowKit Go.Proofs.Ytgdaangbgmmgmaa.Ber

theorem Msgs.below {w w' : World} {base : Nat} {v : Value} {L : List (List UInt8)} (h : Msgs w base v L) (hb : Below w.heap.size w w') : Msgs w' base v L := by
  obtain ⟨xs, hx, he⟩ := h
  exact ⟨xs, own_below hx hb, fun i l hl => (he i l hl).imp fun u hu => ⟨hu.1, own_below hu.2 hb⟩⟩

/-- What is answered of a stream. -/
def Streamed (w : World) (R : Out) (e : Ending) (w' : World) : Prop :=
  ∃ v, e = .returned (.tuple #[v, .int .i64 ((R.2.2.buf.length : Nat) : Int), .int .i64 R.2.1]) ∧ Msgs w' w.heap.size v R.1 ∧ Below w.heap.size w w'

theorem Streamed.of {w w' : World} {R Q : Out} {L : List (List UInt8)} {ov : Value} {e k : Int} (hR : R = pre L Q) (h1 : Q.1 = []) (h2 : Q.2.1 = e) (h3 : ((Q.2.2.buf.length : Nat) : Int) = k)
    (hm : Msgs w' w.heap.size ov L) (hb : Below w.heap.size w w') : Streamed w R (.returned (.tuple #[ov, .int .i64 k, .int .i64 e])) w' := by
  refine ⟨ov, ?_, ?_, hb⟩
  · rw [hR]
    simp only [pre, h2, h3]
  · rw [hR]
    simpa [pre, h1] using hm

set_option maxRecDepth 100000 in
set_option maxHeartbeats 6400000 in
theorem stream_of (w : World) (A : Option Addr) (n c M : Nat) (l : List UInt8) (R : Out) (HH0 : Hid (Has w w.heap.size 1 A n (bys l))) (hc : n ≤ c) (hm : c ≤ maxLen) (hln : Hid (l.length = n)) (hn : n ≤ 1048576) (hM : M ≤ 16384) (HR0 : Hid (R = run M fresh l)) :
    Calls Try.prog 12 #[.slice A n c, .int .i64 (M : Int)] w (Streamed w R) := by
  go_enter Try.func12, Try.ntmps12
  go_wp2
  go_loopw [0, 7] (fun bv ov wr => ∃ (rest : List UInt8) (L : List (List UInt8)) (Ar : Option Addr) (nr cr : Nat), bv = .slice Ar nr cr ∧ nr ≤ cr ∧ cr ≤ maxLen ∧ Hid (rest.length = nr) ∧ L.length + nr ≤ n ∧
    Hid (Has w w.heap.size 1 Ar nr (bys rest)) ∧ Hid (Msgs wr w.heap.size ov L) ∧ Hid (Below w.heap.size w wr) ∧ Hid (R = pre L (run M fresh rest))) (fun bv _ _ => sliceLen bv)
  case atStart => exact ⟨l, [], A, n, c, rfl, hc, hm, hln, by simp, HH0, hide (Msgs.nothing _ _), hide (Below.refl _ _), by rw [HR0.out, pre_nil]; exact hide rfl⟩
  case round =>
    obtain ⟨rest, L, Ar, nr, cr, rfl, hnc, hcm, HL, hb, HH, HM, HB, HR⟩ := hrel
    have hHr := (HH.out.below HB.out).upto HB.out.size
    have HHD := hide (head_any wr wr.heap.size Ar nr cr rest hHr hnc hcm)
    have hcm' : cr ≤ 9223372036854775807 := hcm
    clear hHr
    rcases rest with _ | ⟨t, r⟩
    · obtain rfl : nr = 0 := by simpa using HL.out.symm
      have HHD2 : Hid (Calls Try.prog 19 #[.slice Ar 0 cr] wr fun e w' => e = .returned (.tuple #[.int .i64 0, .int .i64 0, .int .i64 5]) ∧ Below wr.heap.size wr w') := HHD
      clear HHD HH HL
      go_wp2_with fail
      refine HHD2.out.mono ?_
      rintro e wh ⟨rfl, hbh⟩
      have HM9 := hide (HM.out.below hbh)
      have HB9 := hide (HB.out.trans (hbh.mono HB.out.size))
      clear hbh HHD2 HM HB
      go_wp2
      go_ret3
      exact Streamed.of HR.out rfl rfl rfl HM9.out HB9.out
    · obtain ⟨g, o, rfl, hg, hcells⟩ := HH.out.lies (by simp [bys])
      have hcell := (Below.cell HB.out (p := ⟨g, o, none⟩) hg).trans (hcells 0 (c8 t) rfl)
      have hn1 : r.length + 1 = nr := HL.out
      have hnp : 0 < nr := by omega
      have hcp : 0 < cr := by omega
      have hnz : ¬ nr = 0 := by omega
      by_cases ht : t = 48
      · subst ht
        have hcell' : wr.cell? ⟨g, o, none⟩ = some (.int .u8 48) := hcell
        have hle := headOf_le (48 :: r)
        have hcases := head_cases r
        have hbad := step_bad M r
        have hlacks := step_lacks M r
        have hlong := step_long M r
        have hwaits := step_waits M r
        have htakes := step_takes M r
        have hhd := step_head M r
        have hwt := waits M (48 :: r)
        obtain ⟨P, hP⟩ : ∃ P, P = 48 :: r := ⟨_, rfl⟩
        obtain ⟨Q, hQ⟩ : ∃ Q, Q = headOf P := ⟨_, rfl⟩
        rw [← hP] at hle hcases hbad hlacks hlong hwaits htakes hhd hwt HL HH HR HHD
        rw [← hQ] at hle hcases hbad hlacks hlong hwaits htakes hhd HHD
        obtain ⟨hh, len, er⟩ := Q
        simp only at hle hcases hbad hlacks hlong hwaits htakes hhd HHD
        have hPl := HL.out
        rw [hPl] at hle hwaits htakes hhd
        clear hcell hcells hP hQ
        rcases hcases with h0 | h2 | h5
        · subst h0
          obtain ⟨K, hK⟩ : ∃ K, K = hh + len := ⟨_, rfl⟩
          rw [← hK] at hlong hwaits
          have hsum : (hh : Int) + (len : Int) = (K : Int) := by omega
          have htakesK := htakes K rfl hK.symm
          have hK2 : 2 ≤ K := by have := (hhd rfl).2.1; omega
          clear hbad hlacks htakes hhd hK
          by_cases hKM : M < K
          · have hRUN := hlong rfl hKM
            have HRUN := hide hRUN
            have hKi : (M : Int) < (K : Int) := by omega
            clear hlong hwaits htakesK hwt HH HL hRUN
            go_wp2_with fail
            refine HHD.out.mono ?_
            rintro e wh ⟨rfl, hbh⟩
            have hbwh := HB.out.trans (hbh.mono HB.out.size)
            have HB9 := hide hbwh
            have HM9 := hide (HM.out.below hbh)
            clear hbh hbwh
            go_wp2
            go_ret3
            exact Streamed.of HR.out (by rw [HRUN.out]) (by rw [HRUN.out]) (by rw [HRUN.out]; rfl) HM9.out HB9.out
          · have hKi : ¬ (M : Int) < (K : Int) := by omega
            by_cases hnK : nr < K
            · obtain ⟨hm1, hm2⟩ := hwaits rfl hKM hnK
              have hbuf := (hwt hm2 hm1).1
              have hnKi : (nr : Int) < (K : Int) := by omega
              have hq : (((run M fresh P).2.2.buf.length : Nat) : Int) = (nr : Int) := by rw [hbuf, hPl]
              have H1 := hide hm1
              have H2 := hide hm2
              have H3 := hide hq
              clear hlong hwaits htakesK hwt HH HL hm1 hm2 hbuf hq hPl
              go_wp2_with fail
              refine HHD.out.mono ?_
              rintro e wh ⟨rfl, hbh⟩
              have hbwh := HB.out.trans (hbh.mono HB.out.size)
              have HB9 := hide hbwh
              have HM9 := hide (HM.out.below hbh)
              clear hbh hbwh
              go_wp2
              go_ret3
              exact Streamed.of HR.out H1.out H2.out H3.out HM9.out HB9.out
            · have hnKi : ¬ (nr : Int) < (K : Int) := by omega
              have hRUN := htakesK hKM hnK
              have HRUN := hide hRUN
              have hKn : K ≤ nr := by omega
              have hKc : K ≤ cr := by omega
              have hPK : (P.take K).length = K := by rw [List.length_take, hPl]; omega
              clear hlong hwaits htakesK hwt hRUN
              have hd := HH.out.from_ (k := K) (cap := cr) hKn hnc
              simp only [Nat.mul_one] at hd
              rw [bys_drop] at hd
              have hdl : (P.drop K).length = nr - K := by rw [List.length_drop, hPl]
              have HDL := hide hdl
              have HD := hide hd
              clear hd hdl hPl HL
              by_cases hck : cr = K
              · have hd2 := HD.out
                rw [if_pos hck] at hd2
                have HD2 := hide hd2
                clear hd2 HD
                have hck2 := hck.symm
                clear hck
                subst hck2
                go_wp2_with fail
                refine HHD.out.mono ?_
                rintro e wh ⟨rfl, hbh⟩
                have hbwh := HB.out.trans (hbh.mono HB.out.size)
                have hswh := hbwh.size
                obtain ⟨xs, hx, he⟩ := HM.out.below hbh
                have ho0 := none8 wh
                have hb0 : Below wh.heap.size wh (wh.alloc (.cells #[] 5)) := (Below.refl _ _).alloc (Nat.le_refl _) _
                have hs0 := hb0.size
                have hHK := HH.out.first hKn
                rw [Nat.mul_one, bys_take] at hHK
                have hHK2 := hHK.below (hbwh.trans (hb0.mono hswh))
                have HX := hide hx
                have HE := hide he
                have HBW := hide hbwh
                clear hbh hbwh hx he hHK HHD HM HB
                go_wp2_with (at_builtin; go_must (refine app8 _ rfl (.tmp 55) (.tmp 60) rfl wh.heap.size _ 0 [] rfl ho0 _ _ K K (P.take K) rfl hHK2 (by omega) hs0 ?_))
                intro v6 w6 ho6 hb6 _
                obtain ⟨A6, c6, rfl, hc6, hm6, hH6⟩ := own_form' ho6
                have hb06 := hb0.trans hb6
                have hb7 : Below w6.heap.size w6 (w6.alloc (.cells #[.slice A6 K c6] 22)) := (Below.refl _ _).alloc (Nat.le_refl _) _
                have hr7 : (w6.alloc (.cells #[.slice A6 K c6] 22)).ownsRow w6.heap.size 22 1 (.slice (some ⟨w6.heap.size, 0, none⟩) 1 1) 1 [.slice A6 K c6] := own_lit w6 #[.slice A6 K c6] 22 1 (by unfold maxLen; omega) rfl
                have hr7h := Has.own hr7
                have hx7 := own_below (own_below HX.out hb06) hb7
                have he7 := fun (i : Nat) (l : List UInt8) (hl : L[i]? = some l) => (HE.out i l hl).imp fun z hz => And.intro hz.1 (own_below (own_below hz.2 hb06) hb7)
                have ho7 := own_below (own_base ho6 hswh) hb7
                have hbw7 := HBW.out.trans ((hb06.mono hswh).trans (hb7.mono (Nat.le_trans hswh hb06.size)))
                have hsw7 := hbw7.size
                have HE7 := hide he7
                have HBW7 := hide hbw7
                clear ho0 hb0 hs0 hHK2 ho6 hb6 hH6 hb06 hb7 hr7 he7 hbw7 HX HE HBW
                go_wp2_with (at_builtin; go_must (refine app22 _ rfl (.tmp 54) (.tmp 62) rfl w.heap.size _ L.length xs rfl hx7 _ _ 1 1 [.slice A6 K c6] rfl hr7h (by simp [Value.oneCell']) (by omega) hsw7 ?_))
                intro v8 w8 ho8 hat8 hg8
                have hm8 := Msgs.more (l := P.take K) hx7 HE7.out (by rw [hPK]; exact ho7) ho8 hg8
                have hbw8 : Below w.heap.size w w8 := HBW7.out.trans (below_grown hx7 hg8 hsw7)
                have HM8 := hide hm8
                have HB8 := hide hbw8
                clear hm8 hbw8 ho8 hat8 hg8 hx7 hr7h ho7 HE7 HBW7
                go_wp2
                go_roundw
                case rel => exact ⟨P.drop K, L ++ [P.take K], _, _, _, rfl, by omega, by omega, by have := HDL.out; rw [show nr - K = 0 by omega] at this; exact hide this, by simp; omega, by have := HD2.out; rw [show nr - K = 0 by omega] at this; exact hide this, HM8, HB8, by rw [HR.out, HRUN.out, pre_pre]; exact hide rfl⟩
                case measure => simp [sliceLen]; omega
              · have hd2 := HD.out
                rw [if_neg hck, Option.map_some, show (⟨g, o, none⟩ : Addr).add K = ⟨g, o + K, none⟩ by unfold Addr.add; split <;> simp_all] at hd2
                have HD2 := hide hd2
                clear hd2 HD
                go_wp2_with fail
                refine HHD.out.mono ?_
                rintro e wh ⟨rfl, hbh⟩
                have hbwh := HB.out.trans (hbh.mono HB.out.size)
                have hswh := hbwh.size
                obtain ⟨xs, hx, he⟩ := HM.out.below hbh
                have ho0 := none8 wh
                have hb0 : Below wh.heap.size wh (wh.alloc (.cells #[] 5)) := (Below.refl _ _).alloc (Nat.le_refl _) _
                have hs0 := hb0.size
                have hHK := HH.out.first hKn
                rw [Nat.mul_one, bys_take] at hHK
                have hHK2 := hHK.below (hbwh.trans (hb0.mono hswh))
                have HX := hide hx
                have HE := hide he
                have HBW := hide hbwh
                clear hbh hbwh hx he hHK HHD HM HB
                go_wp2_with (at_builtin; go_must (refine app8 _ rfl (.tmp 55) (.tmp 60) rfl wh.heap.size _ 0 [] rfl ho0 _ _ K cr (P.take K) rfl hHK2 (by omega) hs0 ?_))
                intro v6 w6 ho6 hb6 _
                obtain ⟨A6, c6, rfl, hc6, hm6, hH6⟩ := own_form' ho6
                have hb06 := hb0.trans hb6
                have hb7 : Below w6.heap.size w6 (w6.alloc (.cells #[.slice A6 K c6] 22)) := (Below.refl _ _).alloc (Nat.le_refl _) _
                have hr7 : (w6.alloc (.cells #[.slice A6 K c6] 22)).ownsRow w6.heap.size 22 1 (.slice (some ⟨w6.heap.size, 0, none⟩) 1 1) 1 [.slice A6 K c6] := own_lit w6 #[.slice A6 K c6] 22 1 (by unfold maxLen; omega) rfl
                have hr7h := Has.own hr7
                have hx7 := own_below (own_below HX.out hb06) hb7
                have he7 := fun (i : Nat) (l : List UInt8) (hl : L[i]? = some l) => (HE.out i l hl).imp fun z hz => And.intro hz.1 (own_below (own_below hz.2 hb06) hb7)
                have ho7 := own_below (own_base ho6 hswh) hb7
                have hbw7 := HBW.out.trans ((hb06.mono hswh).trans (hb7.mono (Nat.le_trans hswh hb06.size)))
                have hsw7 := hbw7.size
                have HE7 := hide he7
                have HBW7 := hide hbw7
                clear ho0 hb0 hs0 hHK2 ho6 hb6 hH6 hb06 hb7 hr7 he7 hbw7 HX HE HBW
                go_wp2_with (at_builtin; go_must (refine app22 _ rfl (.tmp 54) (.tmp 62) rfl w.heap.size _ L.length xs rfl hx7 _ _ 1 1 [.slice A6 K c6] rfl hr7h (by simp [Value.oneCell']) (by omega) hsw7 ?_))
                intro v8 w8 ho8 hat8 hg8
                have hm8 := Msgs.more (l := P.take K) hx7 HE7.out (by rw [hPK]; exact ho7) ho8 hg8
                have hbw8 : Below w.heap.size w w8 := HBW7.out.trans (below_grown hx7 hg8 hsw7)
                have HM8 := hide hm8
                have HB8 := hide hbw8
                clear hm8 hbw8 ho8 hat8 hg8 hx7 hr7h ho7 HE7 HBW7
                go_wp2
                go_roundw
                case rel => exact ⟨P.drop K, L ++ [P.take K], _, _, _, rfl, by omega, by omega, HDL, by simp; omega, HD2, HM8, HB8, by rw [HR.out, HRUN.out, pre_pre]; exact hide rfl⟩
                case measure => simp [sliceLen]; omega
        · subst h2
          have hRUN := hbad rfl
          have HRUN := hide hRUN
          clear hbad hlacks hlong hwaits htakes hhd hwt hRUN HH HL
          go_wp2_with fail
          refine HHD.out.mono ?_
          rintro e wh ⟨rfl, hbh⟩
          have hbwh := HB.out.trans (hbh.mono HB.out.size)
          have HB9 := hide hbwh
          have HM9 := hide (HM.out.below hbh)
          clear hbh hbwh
          go_wp2
          go_ret3
          exact Streamed.of HR.out (by rw [HRUN.out]) (by rw [HRUN.out]) (by rw [HRUN.out]; rfl) HM9.out HB9.out
        · subst h5
          obtain ⟨hm1, hm2⟩ := hlacks rfl
          have hbuf := (hwt hm2 hm1).1
          have hq : (((run M fresh P).2.2.buf.length : Nat) : Int) = (nr : Int) := by rw [hbuf, hPl]
          have H1 := hide hm1
          have H2 := hide hm2
          have H3 := hide hq
          clear hbad hlacks hlong hwaits htakes hhd hwt HH HL hm1 hm2 hbuf hq hPl
          go_wp2_with fail
          refine HHD.out.mono ?_
          rintro e wh ⟨rfl, hbh⟩
          have hbwh := HB.out.trans (hbh.mono HB.out.size)
          have HB9 := hide hbwh
          have HM9 := hide (HM.out.below hbh)
          clear hbh hbwh
          go_wp2
          go_ret3
          exact Streamed.of HR.out H1.out H2.out H3.out HM9.out HB9.out
      · have hti : ¬ (t.toNat : Int) = 48 := fun h => ht (UInt8.toNat_inj.1 (by rw [show (48 : UInt8).toNat = 48 from rfl]; omega))
        obtain ⟨x, hx⟩ : ∃ x, x = t.toNat := ⟨_, rfl⟩
        have hcell' : wr.cell? ⟨g, o, none⟩ = some (.int .u8 (x : Int)) := by rw [hx]; exact hcell
        rw [← hx] at hti
        have hrun := tag_bad M t r ht
        have HRUN := hide hrun
        clear hcell hcells HHD HH HL hrun hx hn1
        go_wp2
        go_ret3
        exact Streamed.of HR.out (by rw [HRUN.out]) (by rw [HRUN.out]) (by rw [HRUN.out]; rfl) HM.out HB.out


end Go.Proofs.Ytgdaangbgmmgmaa.Frame
