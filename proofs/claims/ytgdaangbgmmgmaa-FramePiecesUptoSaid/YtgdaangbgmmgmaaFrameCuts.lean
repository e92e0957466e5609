/-
  A stream's pieces, as the laws cut them.
-/
import Derived.Test.YtgdaangbgmmgmaaFrameStream
namespace Go.Proofs.Ytgdaangbgmmgmaa.Frame
open Go.RowKit Go.Proofs.Ytgdaangbgmmgmaa.Ber

/-- Each element of the list of slices reads as its piece, in old memory. -/
def Pcs (w : World) (B : Nat) (xs : List Value) (ps : List (List UInt8)) : Prop :=
  ∀ (i : Nat) (p : List UInt8), ps[i]? = some p → ∃ A c, xs[i]? = some (Value.slice A p.length c) ∧ p.length ≤ c ∧ c ≤ maxLen ∧ Has w B 1 A p.length (bys p)

theorem Pcs.snoc {w : World} {B : Nat} {xs : List Value} {ps : List (List UInt8)} (h : Pcs w B xs ps) (hl : xs.length = ps.length) {l : List UInt8} {A : Option Addr} {c : Nat} (h1 : l.length ≤ c) (h2 : c ≤ maxLen) (hH : Has w B 1 A l.length (bys l)) :
    Pcs w B (xs ++ [Value.slice A l.length c]) (ps ++ [l]) := fun i m hm => by
  rcases Nat.lt_or_ge i ps.length with hi | hi
  · rw [List.getElem?_append_left hi] at hm
    obtain ⟨A', c', e, q1, q2, q3⟩ := h i m hm
    exact ⟨A', c', by rw [List.getElem?_append_left (by omega)]; exact e, q1, q2, q3⟩
  · rw [List.getElem?_append_right hi] at hm
    have hi0 : i - ps.length = 0 := by
      rcases Nat.eq_zero_or_pos (i - ps.length) with h0 | h0
      · exact h0
      · rw [List.getElem?_eq_none (by simp; omega)] at hm
        cases hm
    rw [hi0] at hm
    simp only [List.getElem?_cons_zero, Option.some.injEq] at hm
    subst hm
    refine ⟨A, c, ?_, h1, h2, hH⟩
    rw [List.getElem?_append_right (by omega), show i - xs.length = 0 by omega]
    rfl

set_option maxRecDepth 100000 in
set_option maxHeartbeats 6400000 in
theorem cut_of (w : World) (A : Option Addr) (n c : Nat) (l : List UInt8) (A2 : Option Addr) (m c2 : Nat) (ats : List UInt8) (B : Nat) (HH0 : Hid (Has w B 1 A n (bys l))) (hc : n ≤ c) (hm : c ≤ maxLen) (hln : Hid (l.length = n)) (_hn : n ≤ 1048576)
    (HA : Hid (Has w w.heap.size 1 A2 m (bys ats))) (hc2 : m ≤ c2) (hm2 : c2 ≤ maxLen) (hml : m ≤ 300) :
    Calls Try.prog 11 #[.slice A n c, .slice A2 m c2] w fun e w' => ∃ v xs ps, e = .returned v ∧ w'.ownsRow w.heap.size 22 1 v (m + 1) xs ∧ Pcs w B xs ps ∧ ps.flatten = l ∧ ps.length = m + 1 ∧ Below w.heap.size w w' := by
  have hcm2 : c2 ≤ 9223372036854775807 := hm2
  go_enter Try.func11, Try.ntmps11
  go_wp2
  go_loopw [0, 5, 10] (fun bv ov i wr => ∃ (k : Nat) (ps : List (List UInt8)) (xs : List Value) (rest : List UInt8) (Ar : Option Addr) (nr cr : Nat), bv = .slice Ar nr cr ∧ i = .int .i64 k ∧ k ≤ m ∧ nr ≤ cr ∧ cr ≤ maxLen ∧
    Hid (Has w B 1 Ar nr (bys rest)) ∧ Hid (rest.length = nr ∧ nr ≤ n) ∧ Hid (wr.ownsRow w.heap.size 22 1 ov k xs) ∧ Hid (Pcs w B xs ps) ∧ Hid (ps.flatten ++ rest = l) ∧ Hid (ps.length = k) ∧ Hid (Below w.heap.size w wr))
    (fun _ _ i _ => m - (intOf i).toNat)
  case atStart => exact ⟨0, [], [], l, A, n, c, rfl, rfl, Nat.zero_le _, hc, hm, HH0, hide ⟨hln.out, Nat.le_refl _⟩, hide (World.ownsRow_nil _ _ _ _), hide (fun i p h => by simp at h), hide rfl, hide rfl, hide (Below.refl _ _)⟩
  case round =>
    obtain ⟨k, ps, xs, rest, Ar, nr, cr, rfl, rfl, hk, hnc, hcm, HH, HLL, HX, HPC, HF, HPL, HB⟩ := hrel
    have hcm' : cr ≤ 9223372036854775807 := hcm
    by_cases hlt : k < m
    · have hki : (k : Int) < (m : Int) := by omega
      have hkci : (k : Int) < (c2 : Int) := by omega
      obtain ⟨ga, oa, rfl, hga, hcl⟩ := HA.out.lies (by rw [HA.out.1]; omega)
      have halen : k < ats.length := by have := HA.out.1; rw [bys_length] at this; omega
      obtain ⟨x, hx, hxa⟩ : ∃ x : Nat, x < 256 ∧ wr.cell? ⟨ga, oa + k, none⟩ = some (.int .u8 (x : Int)) := by
        refine ⟨(ats[k]).toNat, (ats[k]).toNat_lt, ?_⟩
        exact (Below.cell HB.out (p := ⟨ga, oa + k, none⟩) hga).trans (hcl k _ (by simp [bys, halen, c8]))
      obtain ⟨hrl, hnn⟩ := HLL.out
      have hXL : xs.length = ps.length := by have := HX.out.1; rw [HPL.out]; omega
      have HXL := hide hXL
      obtain ⟨K, hK⟩ : ∃ K, K = min x nr := ⟨_, rfl⟩
      have hKn : K ≤ nr := by omega
      have hKc : K ≤ cr := by omega
      have hTl : (rest.take K).length = K := by rw [List.length_take]; omega
      have hT := HH.out.first hKn
      rw [Nat.mul_one, bys_take] at hT
      have HT := hide hT
      have hd := HH.out.from_ (k := K) (cap := cr) hKn hnc
      simp only [Nat.mul_one] at hd
      rw [bys_drop] at hd
      have hdl : (rest.drop K).length = nr - K ∧ nr - K ≤ n := ⟨by rw [List.length_drop, hrl], by omega⟩
      have HDL := hide hdl
      have HD := hide hd
      clear hXL hT hd hdl hcl halen hrl hnn HA
      rcases Nat.lt_or_ge nr x with hless | hless
      · obtain rfl : K = nr := by omega
        have h1 : (K : Int) < (x : Int) := by omega
        clear hK
        by_cases hck : cr = K
        · have hd2 := HD.out
          rw [if_pos hck] at hd2
          have HD2 := hide hd2
          clear hd2 HD
          have hck2 := hck.symm
          clear hck
          subst hck2
          have HXk := HX.out
          have hb7 : Below wr.heap.size wr (wr.alloc (.cells #[.slice Ar K K] 22)) := (Below.refl _ _).alloc (Nat.le_refl _) _
          have hr7 : (wr.alloc (.cells #[.slice Ar K K] 22)).ownsRow wr.heap.size 22 1 (.slice (some ⟨wr.heap.size, 0, none⟩) 1 1) 1 [.slice Ar K K] := own_lit wr #[.slice Ar K K] 22 1 (by unfold maxLen; omega) rfl
          have hr7h := Has.own hr7
          have hx7 := own_below HXk hb7
          have hsw := HB.out.size
          have hbw7 := HB.out.trans (hb7.mono hsw)
          have hsw7 := hbw7.size
          have HBW7 := hide hbw7
          have hPP := HPC.out.snoc (l := rest.take K) (A := Ar) (c := K) HXL.out (by rw [hTl]; exact hKc) hcm (by rw [hTl]; exact HT.out)
          rw [hTl] at hPP
          have HPP := hide hPP
          have hFF : (ps ++ [rest.take K]).flatten ++ rest.drop K = l := by rw [List.flatten_append, List.flatten_cons, List.flatten_nil, List.append_nil, List.append_assoc, List.take_append_drop]; exact HF.out
          have HFF := hide hFF
          clear hr7 hbw7 HXk hPP hFF hb7
          go_wp2_with (at_builtin; go_must (refine app22 _ rfl (.tmp 21) (.tmp 25) rfl w.heap.size _ k xs rfl hx7 _ _ 1 1 [.slice Ar K K] rfl hr7h (by simp [Value.oneCell']) (by omega) hsw7 ?_))
          intro v8 w8 ho8 hat8 hg8
          have hbw8 : Below w.heap.size w w8 := HBW7.out.trans (below_grown hx7 hg8 hsw7)
          have HX8 := hide ho8
          have HB8 := hide hbw8
          clear hbw8 ho8 hat8 hg8 hx7 hr7h HBW7 HX HB HH
          go_wp2
          go_roundw
          case rel => exact ⟨k + 1, ps ++ [rest.take K], xs ++ [.slice Ar K K], rest.drop K, _, _, _, rfl, by go_num, by omega, by omega, by omega, by have := HD2.out; first | exact hide this | (rw [show K - K = 0 by omega] at this; exact hide this), by have := HDL.out; first | exact hide this | (rw [show K - K = 0 by omega] at this; exact hide this), HX8, HPP, HFF, by simp; exact HPL.out, HB8⟩
          case measure => simp [intOf]; omega
        · have hd2 := HD.out
          rw [if_neg hck] at hd2
          have HD2 := hide hd2
          clear hd2 HD
          have HXk := HX.out
          have hb7 : Below wr.heap.size wr (wr.alloc (.cells #[.slice Ar K cr] 22)) := (Below.refl _ _).alloc (Nat.le_refl _) _
          have hr7 : (wr.alloc (.cells #[.slice Ar K cr] 22)).ownsRow wr.heap.size 22 1 (.slice (some ⟨wr.heap.size, 0, none⟩) 1 1) 1 [.slice Ar K cr] := own_lit wr #[.slice Ar K cr] 22 1 (by unfold maxLen; omega) rfl
          have hr7h := Has.own hr7
          have hx7 := own_below HXk hb7
          have hsw := HB.out.size
          have hbw7 := HB.out.trans (hb7.mono hsw)
          have hsw7 := hbw7.size
          have HBW7 := hide hbw7
          have hPP := HPC.out.snoc (l := rest.take K) (A := Ar) (c := cr) HXL.out (by rw [hTl]; exact hKc) hcm (by rw [hTl]; exact HT.out)
          rw [hTl] at hPP
          have HPP := hide hPP
          have hFF : (ps ++ [rest.take K]).flatten ++ rest.drop K = l := by rw [List.flatten_append, List.flatten_cons, List.flatten_nil, List.append_nil, List.append_assoc, List.take_append_drop]; exact HF.out
          have HFF := hide hFF
          clear hr7 hbw7 HXk hPP hFF hb7
          go_wp2_with (at_builtin; go_must (refine app22 _ rfl (.tmp 21) (.tmp 25) rfl w.heap.size _ k xs rfl hx7 _ _ 1 1 [.slice Ar K cr] rfl hr7h (by simp [Value.oneCell']) (by omega) hsw7 ?_))
          intro v8 w8 ho8 hat8 hg8
          have hbw8 : Below w.heap.size w w8 := HBW7.out.trans (below_grown hx7 hg8 hsw7)
          have HX8 := hide ho8
          have HB8 := hide hbw8
          clear hbw8 ho8 hat8 hg8 hx7 hr7h HBW7 HX HB HH
          go_wp2
          go_roundw
          case rel => exact ⟨k + 1, ps ++ [rest.take K], xs ++ [.slice Ar K cr], rest.drop K, _, _, _, rfl, by go_num, by omega, by omega, by omega, by have := HD2.out; first | exact hide this | (rw [show K - K = 0 by omega] at this; exact hide this), by have := HDL.out; first | exact hide this | (rw [show K - K = 0 by omega] at this; exact hide this), HX8, HPP, HFF, by simp; exact HPL.out, HB8⟩
          case measure => simp [intOf]; omega
      · obtain rfl : K = x := by omega
        have h1 : (K : Int) ≤ (nr : Int) := by omega
        clear hK
        by_cases hck : cr = K
        · have hd2 := HD.out
          rw [if_pos hck] at hd2
          have HD2 := hide hd2
          clear hd2 HD
          have hck2 := hck.symm
          clear hck
          subst hck2
          have HXk := HX.out
          have hb7 : Below wr.heap.size wr (wr.alloc (.cells #[.slice Ar K K] 22)) := (Below.refl _ _).alloc (Nat.le_refl _) _
          have hr7 : (wr.alloc (.cells #[.slice Ar K K] 22)).ownsRow wr.heap.size 22 1 (.slice (some ⟨wr.heap.size, 0, none⟩) 1 1) 1 [.slice Ar K K] := own_lit wr #[.slice Ar K K] 22 1 (by unfold maxLen; omega) rfl
          have hr7h := Has.own hr7
          have hx7 := own_below HXk hb7
          have hsw := HB.out.size
          have hbw7 := HB.out.trans (hb7.mono hsw)
          have hsw7 := hbw7.size
          have HBW7 := hide hbw7
          have hPP := HPC.out.snoc (l := rest.take K) (A := Ar) (c := K) HXL.out (by rw [hTl]; exact hKc) hcm (by rw [hTl]; exact HT.out)
          rw [hTl] at hPP
          have HPP := hide hPP
          have hFF : (ps ++ [rest.take K]).flatten ++ rest.drop K = l := by rw [List.flatten_append, List.flatten_cons, List.flatten_nil, List.append_nil, List.append_assoc, List.take_append_drop]; exact HF.out
          have HFF := hide hFF
          clear hr7 hbw7 HXk hPP hFF hb7
          go_wp2_with (at_builtin; go_must (refine app22 _ rfl (.tmp 21) (.tmp 25) rfl w.heap.size _ k xs rfl hx7 _ _ 1 1 [.slice Ar K K] rfl hr7h (by simp [Value.oneCell']) (by omega) hsw7 ?_))
          intro v8 w8 ho8 hat8 hg8
          have hbw8 : Below w.heap.size w w8 := HBW7.out.trans (below_grown hx7 hg8 hsw7)
          have HX8 := hide ho8
          have HB8 := hide hbw8
          clear hbw8 ho8 hat8 hg8 hx7 hr7h HBW7 HX HB HH
          go_wp2
          go_roundw
          case rel => exact ⟨k + 1, ps ++ [rest.take K], xs ++ [.slice Ar K K], rest.drop K, _, _, _, rfl, by go_num, by omega, by omega, by omega, by have := HD2.out; first | exact hide this | (rw [show nr - K = 0 by omega] at this; exact hide this), by have := HDL.out; first | exact hide this | (rw [show nr - K = 0 by omega] at this; exact hide this), HX8, HPP, HFF, by simp; exact HPL.out, HB8⟩
          case measure => simp [intOf]; omega
        · have hd2 := HD.out
          rw [if_neg hck] at hd2
          have HD2 := hide hd2
          clear hd2 HD
          have HXk := HX.out
          have hb7 : Below wr.heap.size wr (wr.alloc (.cells #[.slice Ar K cr] 22)) := (Below.refl _ _).alloc (Nat.le_refl _) _
          have hr7 : (wr.alloc (.cells #[.slice Ar K cr] 22)).ownsRow wr.heap.size 22 1 (.slice (some ⟨wr.heap.size, 0, none⟩) 1 1) 1 [.slice Ar K cr] := own_lit wr #[.slice Ar K cr] 22 1 (by unfold maxLen; omega) rfl
          have hr7h := Has.own hr7
          have hx7 := own_below HXk hb7
          have hsw := HB.out.size
          have hbw7 := HB.out.trans (hb7.mono hsw)
          have hsw7 := hbw7.size
          have HBW7 := hide hbw7
          have hPP := HPC.out.snoc (l := rest.take K) (A := Ar) (c := cr) HXL.out (by rw [hTl]; exact hKc) hcm (by rw [hTl]; exact HT.out)
          rw [hTl] at hPP
          have HPP := hide hPP
          have hFF : (ps ++ [rest.take K]).flatten ++ rest.drop K = l := by rw [List.flatten_append, List.flatten_cons, List.flatten_nil, List.append_nil, List.append_assoc, List.take_append_drop]; exact HF.out
          have HFF := hide hFF
          clear hr7 hbw7 HXk hPP hFF hb7
          go_wp2_with (at_builtin; go_must (refine app22 _ rfl (.tmp 21) (.tmp 25) rfl w.heap.size _ k xs rfl hx7 _ _ 1 1 [.slice Ar K cr] rfl hr7h (by simp [Value.oneCell']) (by omega) hsw7 ?_))
          intro v8 w8 ho8 hat8 hg8
          have hbw8 : Below w.heap.size w w8 := HBW7.out.trans (below_grown hx7 hg8 hsw7)
          have HX8 := hide ho8
          have HB8 := hide hbw8
          clear hbw8 ho8 hat8 hg8 hx7 hr7h HBW7 HX HB HH
          go_wp2
          go_roundw
          case rel => exact ⟨k + 1, ps ++ [rest.take K], xs ++ [.slice Ar K cr], rest.drop K, _, _, _, rfl, by go_num, by omega, by omega, by omega, by have := HD2.out; first | exact hide this | (rw [show nr - K = 0 by omega] at this; exact hide this), by have := HDL.out; first | exact hide this | (rw [show nr - K = 0 by omega] at this; exact hide this), HX8, HPP, HFF, by simp; exact HPL.out, HB8⟩
          case measure => simp [intOf]; omega
    · obtain rfl : k = m := by omega
      have hXL : xs.length = ps.length := by have := HX.out.1; rw [HPL.out]; omega
      have hb7 : Below wr.heap.size wr (wr.alloc (.cells #[.slice Ar nr cr] 22)) := (Below.refl _ _).alloc (Nat.le_refl _) _
      have hr7 : (wr.alloc (.cells #[.slice Ar nr cr] 22)).ownsRow wr.heap.size 22 1 (.slice (some ⟨wr.heap.size, 0, none⟩) 1 1) 1 [.slice Ar nr cr] := own_lit wr #[.slice Ar nr cr] 22 1 (by unfold maxLen; omega) rfl
      have hr7h := Has.own hr7
      have hx7 := own_below HX.out hb7
      have hbw7 := HB.out.trans (hb7.mono HB.out.size)
      have hsw7 := hbw7.size
      have HBW7 := hide hbw7
      have hrl := HLL.out.1
      have hPP := HPC.out.snoc (l := rest) (A := Ar) (c := cr) hXL (by rw [hrl]; exact hnc) hcm (by rw [hrl]; exact HH.out)
      rw [hrl] at hPP
      have HPP := hide hPP
      have hFF : (ps ++ [rest]).flatten = l := by rw [List.flatten_append, List.flatten_cons, List.flatten_nil, List.append_nil]; exact HF.out
      have HFF := hide hFF
      clear hXL hb7 hr7 hbw7 hrl hPP hFF HX HB HH HA HH0
      go_wp2_with (at_builtin; go_must (refine app22 _ rfl (.tmp 31) (.tmp 33) rfl w.heap.size _ k xs rfl hx7 _ _ 1 1 [.slice Ar nr cr] rfl hr7h (by simp [Value.oneCell']) (by omega) hsw7 ?_))
      intro v8 w8 ho8 hat8 hg8
      have hbw8 : Below w.heap.size w w8 := HBW7.out.trans (below_grown hx7 hg8 hsw7)
      have HX8 := hide ho8
      have HB8 := hide hbw8
      clear hbw8 ho8 hat8 hg8 hx7 hr7h HBW7
      go_wp2
      go_ret
      exact ⟨_, _, _, rfl, HX8.out, HPP.out, HFF.out, by simp; exact HPL.out, HB8.out⟩


end Go.Proofs.Ytgdaangbgmmgmaa.Frame
