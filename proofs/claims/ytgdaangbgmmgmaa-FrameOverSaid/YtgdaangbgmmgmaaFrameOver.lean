/-
  'FrameOver': behind a byte where a message should begin and that isn't 30, all that comes is refused.
-/
import Derived.Test.YtgdaangbgmmgmaaFrameLong
namespace Go.Proofs.Ytgdaangbgmmgmaa.Frame
open Go.RowKit Go.Proofs.Ytgdaangbgmmgmaa.Ber

theorem feed_bad (M : Nat) (l : List UInt8) (b : UInt8) (hl : l.length ≤ 2147483647) (hM : (fieldOf 48 l).length ≤ M) (hb : b ≠ 48) : feedOf M fresh (fieldOf 48 l ++ [b]) = ([fieldOf 48 l], 2, ended) := by
  unfold feedOf
  rw [if_neg (by simp [fresh]), run_field M l [b] hl hM, tag_bad _ _ _ hb]
  rfl

set_option maxRecDepth 100000 in
set_option maxHeartbeats 3200000 in
theorem over_asleep (w : World) (A : Option Addr) (n c : Nat) (b : Int) (A2 : Option Addr) (n2 c2 : Nat) (h : 1000 < n ∨ b = 48) :
    Calls Try.prog 5 #[.slice A n c, .int .u8 b, .slice A2 n2 c2] w fun e w' => e = .returned (.bool true) ∧ Below w.heap.size w w' := by
  rcases Nat.lt_or_ge 1000 n with h1 | h1
  · have h1' : (1000 : Int) < (n : Int) := by omega
    clear h
    go_enter Try.func5, Try.ntmps5
    go_wp2_with fail
    refine (awake_any _).mono ?_
    rintro e w1 ⟨rfl, hb1⟩
    go_wp2_with fail
    refine (awake_any _).mono ?_
    rintro e w2 ⟨rfl, hb2⟩
    go_wp2
    go_ret
    exact ⟨rfl, hb1.trans (hb2.mono hb1.size)⟩
  · obtain rfl : b = 48 := by omega
    have h1' : ¬ (1000 : Int) < (n : Int) := by omega
    clear h
    go_enter Try.func5, Try.ntmps5
    go_wp2_with fail
    refine (awake_any _).mono ?_
    rintro e w1 ⟨rfl, hb1⟩
    go_wp2_with fail
    refine (awake_any _).mono ?_
    rintro e w2 ⟨rfl, hb2⟩
    go_wp2
    go_ret
    exact ⟨rfl, hb1.trans (hb2.mono hb1.size)⟩

set_option maxRecDepth 100000 in
set_option maxHeartbeats 3200000 in
theorem over_of (w : World) (A : Option Addr) (n c : Nat) (t : UInt8) (b : Int) (A2 : Option Addr) (n2 c2 : Nat) (more : List UInt8) (F : List UInt8) (hn : n ≤ 1000) (hb48 : ¬ b = 48) (HB : Hid (Value.int .u8 b = c8 t)) (hF : F.length ≤ 1006)
    (HFL : Hid (∀ W : World, Below w.heap.size w W → Calls Try.prog 17 #[.int .u8 48, .slice A n c] W fun e w' =>
      ∃ v, e = .returned v ∧ w'.ownsRow W.heap.size 5 1 v F.length (bys F) ∧ Below W.heap.size W w'))
    (HR1 : Hid (feedOf 16384 fresh (F ++ [t]) = ([F], 2, ended))) (h2 : Has w w.heap.size 1 A2 n2 (bys more)) (hc2 : n2 ≤ c2) (hm2 : c2 ≤ maxLen) :
    Calls Try.prog 5 #[.slice A n c, .int .u8 b, .slice A2 n2 c2] w fun e w' => e = .returned (.bool true) ∧ Below w.heap.size w w' := by
  have h1 : decide ((1000 : Int) < (n : Int)) = false := decide_eq_false (by omega)
  have h1b : (b == 48) = false := by simpa using hb48
  go_enter Try.func5, Try.ntmps5
  go_wp2_with fail
  refine (awake_any _).mono ?_
  rintro e w1 ⟨rfl, hb1⟩
  go_wp2_with fail
  refine (new_any 16384 _).mono ?_
  rintro e wn ⟨rfl, hcn, hbn⟩
  have hbwn := hb1.trans (hbn.mono hb1.size)
  have hgn := hcn.lt
  have hgw : w.heap.size ≤ w1.heap.size := hb1.size
  have HCN := hide hcn
  clear hb1 hbn hcn
  go_wp2_with fail
  refine (HFL.out wn hbwn).mono ?_
  rintro e wf ⟨vF, rfl, hoF, hbF⟩
  obtain ⟨AF, cF, rfl, hcF, hmF, hHF0⟩ := own_form' hoF
  have hsf := hbF.size
  have ho3 := hoF.alloc (.cells #[.int .u8 b] 5)
  have hb3 : Below wn.heap.size wn (wf.alloc (.cells #[.int .u8 b] 5)) := hbF.alloc hsf _
  have hs3 := hb3.size
  have hH3 : Has (wf.alloc (.cells #[.int .u8 b] 5)) (wf.heap.size + 1) 1 (some ⟨wf.heap.size, 0, none⟩) 1 (bys [t]) := by
    have := has_one wf (.int .u8 b) 5
    rw [HB.out] at this ⊢
    exact this
  clear hoF hbF hHF0 HFL
  go_wp2_with (at_builtin; go_must (refine app8 _ rfl (.tmp 28) (.tmp 30) rfl wn.heap.size _ F.length F rfl ho3 _ _ 1 1 [t] rfl hH3 (by omega) hs3 ?_))
  intro v4 w4 ho4 hb4 _
  have hb04 := hb3.trans hb4
  obtain ⟨A4, c4, rfl, hc4, hm4, _⟩ := own_form' ho4
  have hcut4 : Cutter w4 w1.heap.size 16384 fresh := (cutter_new HCN.out).below hb04 hgn
  have hf1 := feed_any w4 w1.heap.size 16384 16384 fresh (F ++ [t]) (.inl rfl) rfl (Nat.le_refl _) hcut4 A4 (F.length + 1) c4 (Off.own ho4 hgn) hc4 hm4 (fun _ => by simp; omega)
  rw [HR1.out] at hf1
  unfold FeedSays at hf1
  have HF1 := hide hf1
  have hbw4 := hbwn.trans (hb04.mono hbwn.size)
  have hs4 := hbw4.size
  have hg4 : w1.heap.size ≤ w4.heap.size := by have := hb04.size; omega
  clear hf1 hcut4 ho4 hb4 hb04 ho3 hb3 hs3 hH3 hbwn HCN
  go_wp2_with fail
  refine HF1.out.mono ?_
  rintro e w5 ⟨v5, rfl, hm5, hc5, hn5⟩
  obtain ⟨gv, cv, A5, c5, rfl, hcv1, hcvm, _, _, _⟩ := hm5.one
  have hbw5 := hbw4.trans (hn5.below (B := w.heap.size) hgw hs4)
  have hg5 : w1.heap.size ≤ w5.heap.size := Nat.le_trans hg4 hn5.size
  have hf2 := feed_any w5 w1.heap.size 16384 16384 ended more (.inr (.inr (.inr (.inr rfl)))) rfl (Nat.le_refl _) hc5 A2 n2 c2 (Off.of (h2.below hbw5) hgw) hc2 hm2 (fun h => absurd rfl h)
  rw [show feedOf 16384 ended more = ([], 6, ended) from rfl] at hf2
  unfold FeedSays at hf2
  have HF2 := hide hf2
  have hs5 := hbw5.size
  clear hf2 hm5 hc5 hn5 hbw4 HF1
  go_wp2_with fail
  refine HF2.out.mono ?_
  rintro e w6 ⟨v6, rfl, hm6, ⟨m', _, hc6⟩, hn6⟩
  obtain ⟨A6, c6, rfl⟩ := hm6.zero
  have hbw6 := hbw5.trans (hn6.below (B := w.heap.size) hgw hs5)
  have hc6' : Cut w6 w1.heap.size m' 4 [] 0 0 0 := hc6
  have HOV := hide (over_any w6 _ _ _ _ _ _ _ hc6')
  have HWT := hide (waiting_any w6 _ _ _ _ _ _ _ hc6')
  clear hm6 hn6 hc6 hc6' HF2 hbw5
  go_wp2_with fail
  refine HOV.out.mono ?_
  rintro e w7 ⟨rfl, rfl⟩
  go_wp2_with fail
  refine HWT.out.mono ?_
  rintro e w8 ⟨rfl, rfl⟩
  go_wp2
  go_ret
  exact ⟨rfl, hbw6⟩

theorem over_walk (w : World) (A : Option Addr) (n c : Nat) (l : List UInt8) (h : Has w w.heap.size 1 A n (bys l)) (b : UInt8) (A2 : Option Addr) (n2 c2 : Nat) (more : List UInt8) (h2 : Has w w.heap.size 1 A2 n2 (bys more)) (hc2 : n2 ≤ c2) (hm2 : c2 ≤ maxLen) :
    Calls Try.prog 5 #[.slice A n c, .int .u8 (b.toNat : Int), .slice A2 n2 c2] w fun e w' => e = .returned (.bool true) ∧ Below w.heap.size w w' := by
  by_cases h0 : 1000 < n ∨ (b.toNat : Int) = 48
  · exact over_asleep w A n c _ A2 n2 c2 h0
  · have hln : l.length = n := by simpa [bys] using h.1
    have h2F := fieldOf_two 48 l (by omega)
    have hb : b ≠ 48 := fun e => h0 (.inr (by rw [e]; rfl))
    exact over_of w A n c b _ A2 n2 c2 more (fieldOf 48 l) (by omega) (fun e => h0 (.inr e)) (hide rfl) (by omega) (hide fun W hW => rfield_any 48 W W.heap.size A n c l ((h.below hW).upto hW.size) (Nat.le_refl _) (by omega))
      (hide (feed_bad _ _ _ (by omega) (by omega) hb)) h2 hc2 hm2


end Go.Proofs.Ytgdaangbgmmgmaa.Frame
