/-
  slices.Concat of two lists of texts; parts that are joined by the reference if they fit. By an AI agent.
-/
import Derived.Test.YtkncdohghafeiaaGreatDoorQRComp
import Derived.Lib.AppendZeros
namespace Go.Proofs.YtkncdohghafeiaaGreatDoor
open Go.RowKit
set_option linter.unusedVariables false

set_option maxRecDepth 100000 in
set_option maxHeartbeats 16000000 in
theorem grow_any (n : Nat) (hn : n ≤ 100000) (w : World) :
    Calls Tryz.prog 76 #[.slice none 0 0, .int .i64 (n : Int)] w fun e w' => ∃ v, e = .returned v ∧ w'.ownsRow w.heap.size 9 1 v 0 (strs []) ∧ Below w.heap.size w w' := by
  by_cases h0 : n = 0
  · subst h0
    go_enter Tryz.func76, Tryz.ntmps76
    go_wp2
    go_ret
    exact ⟨_, rfl, nil_own _ _ _ _, Below.refl _ _⟩
  · have z0 : ¬ ((n : Int) < 0) := by omega
    have z1 : ((0 : Int) < (n : Int)) := by omega
    obtain ⟨i0, hi, hz0, hz1, hz2⟩ := info_parts infoS
    have happ := Lib.run_append_nil_zeros (P := Tryz.prog) w 54 3 54 9 i0 (.string .empty) .i64 .i64 Tryz.underlying54 Tryz.underlying3 hi hz0 n (by omega) (by omega) (by omega) (by rw [hz2]; omega)
    generalize hcap : grownCap w n 0 9 = cap2 at happ
    have hcapge : n ≤ cap2 := by rw [← hcap]; exact grownCap_ge w _ 0 9
    have hcaple : cap2 ≤ maxLen := by rw [← hcap]; exact grownCap_le_maxLen w _ 0 9 (by unfold maxLen; omega)
    generalize hZ : (Builtin.zeroCells (Value.string .empty).cells n ++ Builtin.zeroCells (Value.string .empty).cells (cap2 - n)) = Z at happ
    have hZs : Z.size = cap2 := by rw [← hZ]; simp [size_zeroCells, Value.cells]; omega
    have hown : (w.drew.alloc (.cells Z 9)).ownsRow w.heap.size 9 1 (.slice (some ⟨w.heap.size, 0, none⟩) 0 cap2) 0 (strs []) :=
      ⟨rfl, .inr ⟨w.heap.size, cap2, Z, rfl, Nat.le_refl _, heap_alloc_new w.drew _, Nat.zero_le _, hcaple, by omega, by simp [strs]⟩⟩
    have hb : Below w.heap.size w (w.drew.alloc (.cells Z 9)) := ((Below.refl _ _).drew).alloc (Nat.le_refl _) _
    have Hown := hide hown
    have Hb := hide hb
    have hcm : (cap2 : Int) ≤ 9223372036854775807 := by unfold maxLen at hcaple; omega
    clear hcap hZ hZs hown hb hi hz0 hz1 hz2 hcaple
    go_enter Tryz.func76, Tryz.ntmps76
    go_wp2_with (at_builtin; refine Lib.wpList_append_run _ rfl _ _ _ _ rfl _ _ rfl rfl _ _ happ ?_)
    go_wp2
    go_ret
    exact ⟨_, rfl, Hown.out, Hb.out⟩

/-- Two cells of a block. -/
structure Two (w : World) (h : Nat) (u v : Value) : Prop where
  c0 : w.cell? ⟨h, 0, none⟩ = some u
  c1 : w.cell? ⟨h, 1, none⟩ = some v
  lt : h < w.heap.size
theorem Two.new (w : World) (u v : Value) (e : TypeId) : Two (w.alloc (.cells #[u, v] e)) w.heap.size u v :=
  ⟨by rw [World.cell?_alloc_at (hn := by simp)]; rfl, by rw [World.cell?_alloc_at (hn := by simp)]; rfl, by simp⟩
theorem Two.below {w w' : World} {h : Nat} {u v : Value} (t : Two w h u v) (hb : Below w.heap.size w w') : Two w' h u v :=
  ⟨(hb.cell (p := ⟨h, 0, none⟩) t.lt).trans t.c0, (hb.cell (p := ⟨h, 1, none⟩) t.lt).trans t.c1, Nat.lt_of_lt_of_le t.lt hb.size⟩

set_option maxRecDepth 100000 in
set_option maxHeartbeats 16000000 in
theorem concat_any (w : World) (h : Nat) (A B : Option Addr) (n c m d : Nat) (T U : List (List UInt8)) (hO : Two w h (.slice A n c) (.slice B m d)) (hA : Has w w.heap.size 1 A n (strs T)) (hB : Has w w.heap.size 1 B m (strs U)) (hn : n ≤ 1000) (hm : m ≤ 1000) :
    Calls Tryz.prog 52 #[.slice (some ⟨h, 0, none⟩) 2 2] w fun e w' => ∃ v, e = .returned v ∧ w'.ownsRow w.heap.size 9 1 v (n + m) (strs (T ++ U)) ∧ Below w.heap.size w w' := by
  obtain ⟨c0, c1, hlt⟩ := hO
  have hG := fun k hk w => grow_any k hk w
  have HA := hide hA
  have HB := hide hB
  have h1t := strs_one T
  have h1u := strs_one U
  have H1t := hide h1t
  have H1u := hide h1u
  clear hA hB h1t h1u
  go_enter Tryz.func52, Tryz.ntmps52
  go_wp2
  go_loopg [3, 11] 2 (fun k s3 s11 wx => ((k = 2 ∧ s11 = .int .i64 0 ∧ s3 = .int .i64 0) ∨ (k = 1 ∧ s11 = .int .i64 1 ∧ s3 = .int .i64 (n : Int)) ∨ (k = 0 ∧ s11 = .int .i64 2 ∧ s3 = .int .i64 ((n : Int) + (m : Int)))) ∧ wx = w)
  case atStart => exact ⟨.inl ⟨rfl, rfl, rfl⟩, rfl⟩
  case round =>
    obtain ⟨hcs0, hw0⟩ := hrel
    obtain rfl := hw0.symm
    clear hw0
    rcases hcs0 with ⟨rfl, rfl, rfl⟩ | ⟨rfl, rfl, rfl⟩ | ⟨rfl, rfl, rfl⟩
    · have z0 : ¬ ((n : Int) < 0) := by omega
      clear HA HB H1t H1u hG
      go_wp2
      go_roundg 1
      case measure => omega
      case rel => exact ⟨.inr (.inl ⟨rfl, by go_num, by go_num⟩), rfl⟩
    · have z0 : ¬ ((n : Int) + (m : Int) < 0) := by omega
      clear HA HB H1t H1u hG
      go_wp2
      go_roundg 0
      case measure => omega
      case rel => exact ⟨.inr (.inr ⟨rfl, by go_num, by go_num⟩), rfl⟩
    · have hG1 := hG (n + m) (by omega) w
      rw [show (((n + m : Nat)) : Int) = (n : Int) + (m : Int) by omega] at hG1
      have c0w : ∀ W, Below w.heap.size w W → W.cell? ⟨h, 0, none⟩ = some (.slice A n c) := fun W hW => (hW.cell (p := ⟨h, 0, none⟩) hlt).trans c0
      have c1w : ∀ W, Below w.heap.size w W → W.cell? ⟨h, 1, none⟩ = some (.slice B m d) := fun W hW => (hW.cell (p := ⟨h, 1, none⟩) hlt).trans c1
      have C0 := hide c0w
      have C1 := hide c1w
      clear hG c0w c1w c0 c1
      go_wp2_with (go_at_call 76; fail)
      refine hG1.mono ?_
      rintro e w1 ⟨v1, rfl, hown, hb1⟩
      have HB1 := hide hb1
      clear hG1 hb1
      go_wp2
      go_loopg [6, 27] 2 (fun k s6 s27 wx => Hid ((k = 2 ∧ s27 = .int .i64 0 ∧ wx.ownsRow w.heap.size 9 1 s6 0 (strs [])) ∨ (k = 1 ∧ s27 = .int .i64 1 ∧ wx.ownsRow w.heap.size 9 1 s6 n (strs T)) ∨ (k = 0 ∧ s27 = .int .i64 2 ∧ wx.ownsRow w.heap.size 9 1 s6 (n + m) (strs (T ++ U)))) ∧ Hid (Below w.heap.size w wx))
      case atStart => exact ⟨hide (.inl ⟨rfl, rfl, hown⟩), HB1⟩
      case round =>
        obtain ⟨hcs, hB1⟩ := hrel
        clear hown HB1
        rcases hcs.out with ⟨rfl, rfl, hor⟩ | ⟨rfl, rfl, hor⟩ | ⟨rfl, rfl, hor⟩
        · have c0 := C0.out _ hB1.out
          have hA1 := HA.out.below hB1.out
          have hs1 := hB1.out.size
          have ho1 := H1t.out
          clear hcs HA HB H1u C0 C1
          go_wp2_with (at_builtin; go_must (refine appE _ 54 9 _ 1 16 Tryz.underlying54 infoS rfl (by omega) (by omega) rfl (.tmp 31) (.tmp 32) rfl w.heap.size _ 0 (strs []) rfl hor _ _ n _ (strs T) rfl hA1 ho1 (by omega) hs1 ?_))
          intro v' w6 hor6 hb6 _
          have hB6 := hide (hB1.out.trans hb6)
          have hor7 : w6.ownsRow w.heap.size 9 1 v' n (strs T) := by simpa [strs] using hor6
          clear hor hor6 hb6 hA1 hs1 ho1 hB1 c0
          go_wp2
          go_roundg 1
          case measure => omega
          case rel => exact ⟨hide (.inr (.inl ⟨rfl, by go_num, hor7⟩)), hB6⟩
        · have c1 := C1.out _ hB1.out
          have hA1 := HB.out.below hB1.out
          have hs1 := hB1.out.size
          have ho1 := H1u.out
          clear hcs HA HB H1t C0 C1
          go_wp2_with (at_builtin; go_must (refine appE _ 54 9 _ 1 16 Tryz.underlying54 infoS rfl (by omega) (by omega) rfl (.tmp 31) (.tmp 32) rfl w.heap.size _ n (strs T) rfl hor _ _ m _ (strs U) rfl hA1 ho1 (by omega) hs1 ?_))
          intro v' w6 hor6 hb6 _
          have hB6 := hide (hB1.out.trans hb6)
          rw [← strs_append] at hor6
          clear hor hb6 hA1 hs1 ho1 hB1 c1
          go_wp2
          go_roundg 0
          case measure => omega
          case rel => exact ⟨hide (.inr (.inr ⟨rfl, by go_num, hor6⟩)), hB6⟩
        · have Hor := hide hor
          clear hcs HA HB H1t H1u C0 C1 hor
          go_wp2
          go_ret
          exact ⟨_, rfl, Hor.out, hB1.out⟩

set_option maxRecDepth 100000 in
set_option maxHeartbeats 16000000 in
theorem fit_any (w : World) (A : Option Addr) (n c : Nat) (T : List (List UInt8)) (h : Has w w.heap.size 1 A n (strs T)) (hn : n ≤ 10000) (hl : (joinC T).length ≤ 100000000) :
    Calls Tryz.prog 55 #[.slice A n c] w fun e w' => e = .returned (.tuple #[.string (txt (fitV T).1), .int .i64 (fitV T).2]) ∧ w' = w := by
  have hJ := fun w h => joined_any w A n c T h hn hl
  have hnl := h.strs_n
  by_cases h12 : 12 < n
  · have hf : fitV T = ([], 4) := by unfold fitV; rw [if_pos (Or.inl (by omega))]
    rw [hf]
    have z1 : ((12 : Int) < (n : Int)) := by omega
    clear hJ hf hnl h hl
    go_enter Tryz.func55, Tryz.ntmps55
    go_wp2
    go_ret2
    exact ⟨rfl, rfl⟩
  · have z1 : ¬ ((12 : Int) < (n : Int)) := by omega
    have hsz : (txt (joinC T)).size = (joinC T).length := txt_size _
    have hJ1 := hJ w h
    by_cases h1 : 1000 < (joinC T).length
    · have hf : fitV T = ([], 4) := by unfold fitV; rw [if_pos (Or.inr h1)]
      rw [hf]
      have z2 : ((1000 : Int) < ((txt (joinC T)).size : Int)) := by omega
      generalize txt (joinC T) = X at *
      clear hf hnl h hl hsz h1 hJ
      go_enter Tryz.func55, Tryz.ntmps55
      go_wp2_with (go_at_call 40; fail)
      refine hJ1.mono ?_
      rintro e w1 ⟨rfl, hw1⟩
      obtain rfl := hw1.symm
      clear hJ1 hw1
      go_wp2
      go_ret2
      exact ⟨rfl, rfl⟩
    · have hf : fitV T = (joinC T, 0) := by unfold fitV; rw [if_neg (by omega)]
      rw [hf]
      have z2 : ¬ ((1000 : Int) < ((txt (joinC T)).size : Int)) := by omega
      simp only
      generalize txt (joinC T) = X at *
      clear hf hnl h hl hsz h1 hJ
      go_enter Tryz.func55, Tryz.ntmps55
      go_wp2_with (go_at_call 40; fail)
      refine hJ1.mono ?_
      rintro e w1 ⟨rfl, hw1⟩
      obtain rfl := hw1.symm
      clear hw1
      go_wp2_with (go_at_call 40; fail)
      refine hJ1.mono ?_
      rintro e w1 ⟨rfl, hw1⟩
      obtain rfl := hw1.symm
      clear hJ1 hw1
      go_wp2
      go_ret2
      exact ⟨rfl, rfl⟩

end Go.Proofs.YtkncdohghafeiaaGreatDoor
