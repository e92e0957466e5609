/-
  What every law of the layer asks first: one message, cut out of four bytes.
-/
import Derived.Test.YtgdaangbgmmgmaaFrameFed
import Derived.Test.YtgdaangbgmmgmaaFrameField
namespace Go.Proofs.Ytgdaangbgmmgmaa.Frame
open Go.RowKit Go.Proofs.Ytgdaangbgmmgmaa.Ber

theorem Msgs.one {w : World} {base : Nat} {v : Value} {l : List UInt8} (h : Msgs w base v [l]) :
    ∃ gv cv A c, v = .slice (some ⟨gv, 0, none⟩) 1 cv ∧ 1 ≤ cv ∧ cv ≤ maxLen ∧ base ≤ gv ∧ w.cell? ⟨gv, 0, none⟩ = some (.slice A l.length c) ∧ Has w w.heap.size 1 A l.length (bys l) := by
  obtain ⟨xs, hx, he⟩ := h
  obtain ⟨u, hu, huo⟩ := he 0 l rfl
  obtain ⟨A, c, rfl, _, _, hH⟩ := own_form' huo
  rcases hx.2 with ⟨_, h0⟩ | ⟨g, cap, cur, rfl, hg, hh, hc, hm, hs, ht⟩
  · simp at h0
  · refine ⟨g, cap, A, c, rfl, hc, hm, hg, ?_, hH⟩
    rw [cell_of_row w g 0 _ _ _ hh, ← Array.getElem?_toList]
    rw [← ht, List.getElem?_take] at hu
    split at hu
    · exact hu
    · cases hu

theorem Msgs.zero {w : World} {base : Nat} {v : Value} (h : Msgs w base v []) : ∃ A c, v = .slice A 0 c := by
  obtain ⟨xs, hx, _⟩ := h
  obtain ⟨A, c, hv, _⟩ := own_form' hx
  exact ⟨A, c, hv⟩

theorem Off.new {w : World} {g gp o n : Nat} {xs : List Value} (hl : xs.length = n) (hne : gp ≠ g) (hc : ∀ j u, xs[j]? = some u → w.cell? ⟨gp, o + j, none⟩ = some u) : Off w g (some ⟨gp, o, none⟩) n xs :=
  ⟨hl, .inr ⟨_, rfl, hne, fun j u hu => by rw [show (⟨gp, o, none⟩ : Addr).add j = ⟨gp, o + j, none⟩ by unfold Addr.add; split <;> simp_all]; exact hc j u hu⟩⟩

/-- What the call owns lies elsewhere than in an older block. -/
theorem Off.own {w : World} {g base n : Nat} {e : TypeId} {A : Option Addr} {c : Nat} {xs : List Value} (h : w.ownsRow base e 1 (.slice A n c) n xs) (hg : g < base) : Off w g A n xs := by
  refine ⟨by simpa using h.1, ?_⟩
  rcases Nat.eq_zero_or_pos n with h0 | h0
  · subst h0
    exact .inl (List.eq_nil_of_length_eq_zero (by simpa using h.1))
  · obtain ⟨g', cap, hv, hb, hlt⟩ := h.form h0
    injection hv with hA
    subst hA
    exact .inr ⟨_, rfl, by simp only; omega, h.cells (g := g') rfl⟩

theorem cutter_new {w : World} {g : Nat} {m : Int} (h : Cut w g m 0 [] 0 0 0) : Cutter w g m fresh := ⟨m, fun _ => rfl, h⟩

theorem most_of (M : Nat) (h2 : 2 ≤ M) (h : M ≤ 16384) : mostOf (M : Int) = (M : Int) := by unfold mostOf; omega
theorem most_if (M : Nat) (h2 : 2 ≤ M) : (if (M : Int) = 0 then (16384 : Int) else (M : Int)) = (M : Int) := if_neg (by omega)

theorem awake_run : feedOf 100 fresh [48, 1, 7, 48] = ([[48, 1, 7]], 0, ⟨1, [48], 0, 0⟩) := by rfl

set_option maxRecDepth 100000 in
set_option maxHeartbeats 1600000 in
theorem awake_any (w : World) : Calls Try.prog 8 #[] w fun e w' => e = .returned (.bool true) ∧ Below w.heap.size w w' := by
  have HN := hide (new_any 100 w)
  have HF := hide fun (w1 : World) (hc : Cut w1 w.heap.size (mostOf 100) 0 [] 0 0 0) =>
    feed_any (w1.alloc (.cells #[.int .u8 48, .int .u8 1, .int .u8 7, .int .u8 48] 5)) w.heap.size (mostOf 100) 100 fresh [48, 1, 7, 48] (.inl rfl) rfl (by omega) ((cutter_new hc).below ((Below.refl _ _).alloc (Nat.le_refl _) _) hc.lt)
      (some ⟨w1.heap.size, 0, none⟩) 4 4 (Off.own (own_lit w1 #[.int .u8 48, .int .u8 1, .int .u8 7, .int .u8 48] 5 4 (by unfold maxLen; omega) rfl) hc.lt) (by omega) (by unfold maxLen; omega) (fun _ => by simp)
  go_enter Try.func8, Try.ntmps8
  go_wp2_with fail
  refine HN.out.mono ?_
  rintro e w1 ⟨rfl, hc1, hb1⟩
  have hf := HF.out w1 hc1
  rw [awake_run] at hf
  unfold FeedSays at hf
  have HF2 := hide hf
  clear hf HF HN
  have hs1 := hb1.size
  have HC1 := hide hc1.lt
  clear hc1
  go_wp2_with fail
  refine HF2.out.mono ?_
  rintro e w3 ⟨v, rfl, hm, _, hn⟩
  have hb3 : Below w.heap.size w w3 := (hb1.alloc hs1 _).trans (hn.below (Nat.le_refl _) (by simp; omega))
  obtain ⟨gv, cv, A, c, rfl, h1, h2, _, hcell, hH⟩ := hm.one
  have t1 : (convert 22 9 (.slice A 3 c)).run Try.prog w3 = .ok (.string (txt [48, 1, 7])) w3 := txt8 w3 c hH
  have HB := hide hb3
  clear hm hn HF2 HC1 hb1 hs1 hb3 hH
  go_wp2
  go_ret
  exact ⟨rfl, HB.out⟩

end Go.Proofs.Ytgdaangbgmmgmaa.Frame
