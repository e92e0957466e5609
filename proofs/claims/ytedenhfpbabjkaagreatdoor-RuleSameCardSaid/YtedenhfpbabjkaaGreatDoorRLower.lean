/-
  The reference's Lower: a text with its great letters made small. By an AI agent.
-/
import Derived.Test.YtedenhfpbabjkaaGreatDoorRLow
import Derived.Laws.IdiomStrings
namespace Go.Proofs.YtedenhfpbabjkaaGreatDoor
open Go.RowKit

/-- A row of bytes of the call's own, made of a text. -/
structure Row8 (w : World) (g : Nat) (l : List UInt8) : Prop where
  at_ : ∀ (j : Nat) (x : UInt8), l[j]? = some x → w.cell? ⟨g, j, none⟩ = some (.int .u8 (x.toNat : Int))
  fz : ∀ j : Nat, j < l.length → w.frozen? ⟨g, j, none⟩ = false
  lt : g < w.heap.size

theorem Row8.below {w w' : World} {g B : Nat} {l : List UInt8} (h : Row8 w g l) (hg : g < B) (hb : Below B w w') : Row8 w' g l :=
  ⟨fun j x hx => (hb.cell (by exact hg)).trans (h.at_ j x hx), fun j hj => (hb.frozen (by exact hg)).trans (h.fz j hj), Nat.lt_of_lt_of_le h.lt hb.size⟩

theorem Row8.set {w : World} {g : Nat} {l : List UInt8} (h : Row8 w g l) {j : Nat} (hj : j < l.length) (x : UInt8) : Row8 (w.setCell ⟨g, j, none⟩ (.int .u8 (x.toNat : Int))) g (l.set j x) := by
  refine ⟨fun k y hy => ?_, fun k hk => ?_, by simpa using h.lt⟩
  · by_cases hkj : k = j
    · subst hkj
      rw [List.getElem?_set_self hj] at hy
      obtain rfl := Option.some.inj hy
      exact World.cell?_setCell_same _ _ _ (h.at_ k _ (List.getElem?_eq_getElem hj))
    · rw [List.getElem?_set_ne (fun e => hkj e.symm)] at hy
      rw [World.cell?_setCell_other _ _ _ _ (by intro e; injection e with _ e; exact hkj e.symm)]
      exact h.at_ k y hy
  · rw [World.frozen?_setCell]
    exact h.fz k (by simpa using hk)

theorem Row8.has {w : World} {g : Nat} {l : List UInt8} (h : Row8 w g l) : Has w (g + 1) 1 (some ⟨g, 0, none⟩) l.length (bys l) := by
  refine ⟨by rw [bys_length]; omega, .inr ⟨_, rfl, by simp, fun j u hu => ?_⟩⟩
  unfold bys at hu
  rw [List.getElem?_map] at hu
  cases hx : l[j]? with
  | none => rw [hx] at hu; cases hu
  | some x =>
    rw [hx] at hu
    obtain rfl := Option.some.inj hu
    have : (⟨g, 0, none⟩ : Addr).add j = ⟨g, j, none⟩ := by unfold Addr.add; split <;> simp_all
    rw [this]
    exact h.at_ j x hx

theorem run_bytes8 {P : Program} (w : World) (s : ByteArray) (src dst e : TypeId) (hs : P.underlying src = some .string) (hd : P.underlying dst = some (.slice e)) (he : P.underlying e = some (.int .u8)) :
    ∃ cap w', (convert src dst (.string s)).run P w = .ok (.slice (some ⟨w.heap.size, 0, none⟩) s.size cap) w' ∧ Row8 w' w.heap.size s.data.toList ∧ Below w.heap.size w w' := by
  refine ⟨_, _, run_bytes_of_string w src dst e s hs hd he, ?_, ?_⟩
  · refine ⟨fun j x hx => ?_, fun j hj => ?_, ?_⟩
    · have hj : j < s.data.size := by
        have := (List.getElem?_eq_some_iff.1 hx).1
        simpa using this
      have e1 := World.cell?_alloc_mark w.drew (bytesRow s (grownCap w s.size 0 e)) e ((bytesRow s (grownCap w s.size 0 e)).size, (bytesRow s (grownCap w s.size 0 e)).size + 1) j
      refine e1.trans ?_
      rw [bytesRow_at s _ j hj]
      have hx' : s.data[j] = x := by
        have := (List.getElem?_eq_some_iff.1 hx).2
        simpa using this
      rw [hx']
    · have hj' : j < s.data.size := by simpa using hj
      have hsz : j < (bytesRow s (grownCap w s.size 0 e)).size := by
        rw [bytesRow, Array.size_append, Array.size_map]
        omega
      have e1 := World.frozen?_alloc_mark w.drew (bytesRow s (grownCap w s.size 0 e)) e (bytesRow s (grownCap w s.size 0 e)).size ((bytesRow s (grownCap w s.size 0 e)).size + 1) j
      refine e1.trans ?_
      rw [decide_eq_false (by omega)]
      rfl
    · simp
  · exact (Below.refl _ w).drew.alloc (by simp) _

theorem lows_take {l : List UInt8} {i : Nat} {x : UInt8} (h : l[i]? = some x) : lows (l.take (i + 1)) ++ l.drop (i + 1) = (lows (l.take i) ++ l.drop i).set i (low x) ∧ (lows (l.take i) ++ l.drop i)[i]? = some x := by
  have hi := (List.getElem?_eq_some_iff.1 h).1
  have hx := (List.getElem?_eq_some_iff.1 h).2
  have e1 : l.drop i = x :: l.drop (i + 1) := by rw [List.drop_eq_getElem_cons hi, hx]
  have e2 : (lows (l.take i)).length = i := by rw [lows_length, List.length_take]; omega
  have e3 : l.take (i + 1) = l.take i ++ [x] := by rw [List.take_add_one, h]; rfl
  rw [e1, e3]
  refine ⟨?_, ?_⟩
  · rw [List.set_append, if_neg (by omega), e2, Nat.sub_self]
    simp [lows]
  · rw [List.getElem?_append_right (by omega), e2, Nat.sub_self]
    rfl

set_option maxRecDepth 100000 in
set_option maxHeartbeats 8000000 in
theorem lower_any (s : ByteArray) (h48 : s.size ≤ 281474976710656) (w : World) :
    Calls Tryz.prog 45 #[.string s] w fun e w' => e = .returned (.string (txt (lows s.data.toList))) ∧ Below w.heap.size w w' := by
  obtain ⟨cap, w1, hrun, hR, hb⟩ := run_bytes8 (P := Tryz.prog) w s 9 73 5 Tryz.underlying9 Tryz.underlying73 Tryz.underlying5
  have hL := hide (Lib.size_eq s)
  generalize hl : s.data.toList = l at *
  replace hl := hide hl
  generalize hg : w.heap.size = g at *
  go_enter Tryz.func45, Tryz.ntmps45
  go_wp2
  go_loopg [9] s.size (fun k s9 wx => ∃ i : Nat, i + k = s.size ∧ s9 = .int .i64 (i : Int) ∧ Row8 wx g (lows (l.take i) ++ l.drop i) ∧ Below g w wx)
  case atStart => exact ⟨0, by omega, rfl, by simpa [lows] using hR, hb⟩
  case round =>
    obtain ⟨i, hig, rfl, hR1, hb1⟩ := hrel
    clear hR hb hrun
    cases gk with
    | zero =>
      obtain rfl : i = s.size := by omega
      have hiz : ¬ ((s.size : Int) < (s.size : Int)) := by omega
      have hR2 : Row8 wr g (lows l) := by
        rw [hL.out] at hR1
        simpa using hR1
      have hn : (lows l).length = s.size := by rw [lows_length, hL.out]
      have ht := run_txt (P := Tryz.prog) wr (c := cap) hR2.has 73 9 5 Tryz.underlying73 Tryz.underlying5 Tryz.underlying9
      rw [hn] at ht
      go_wp2
      go_ret
      exact ⟨rfl, hb1⟩
    | succ k =>
      have hi : i < s.size := by omega
      have hiz : (i : Int) < (s.size : Int) := by omega
      have hil : i < l.length := by rw [← hL.out]; exact hi
      obtain ⟨x, hx⟩ : ∃ x, l[i]? = some x := ⟨_, List.getElem?_eq_getElem hil⟩
      obtain ⟨e1, e2⟩ := lows_take hx
      have hc := hR1.at_ i x e2
      have hf := hR1.fz i (by have := (List.getElem?_eq_some_iff.1 e2).1; exact this)
      have hset := hR1.set (j := i) (by have := (List.getElem?_eq_some_iff.1 e2).1; exact this) (low x)
      rw [← e1] at hset
      have hb2 := hb1.setCell (p := ⟨g, i, none⟩) (by simp) (.int .u8 ((low x).toNat : Int))
      have hl := low_toNat x
      have hlt := x.toNat_lt
      have hsame : low x = x → Row8 wr g (lows (l.take (i + 1)) ++ l.drop (i + 1)) := by
        intro hx'
        rw [e1, hx']
        have := (List.getElem?_eq_some_iff.1 e2)
        have e3 : (lows (l.take i) ++ l.drop i).set i x = lows (l.take i) ++ l.drop i := by
          conv => lhs; rw [← this.2]
          exact List.set_getElem_self this.1
        rw [e3]; exact hR1
      have hlow : ¬ (65 ≤ x.toNat ∧ x.toNat ≤ 90) → low x = x := by
        intro h; unfold low; rw [if_neg h]
      clear e1 e2 hR1
      by_cases h1 : (65 : Int) ≤ (x.toNat : Int)
      · by_cases h2 : (x.toNat : Int) ≤ 90
        · have e : ((low x).toNat : Int) = (x.toNat : Int) + 32 := by rw [hl, if_pos (by omega)]; omega
          rw [e] at hset hb2
          clear hl e hsame hlow
          go_wp2
          go_roundg k
          case measure => omega
          case rel => exact ⟨i + 1, by omega, by go_num, hset, hb2⟩
        · have hR2 := hsame (hlow (by omega))
          clear hl hset hb2 hsame hlow
          go_wp2
          go_roundg k
          case measure => omega
          case rel => exact ⟨i + 1, by omega, by go_num, hR2, hb1⟩
      · have hR2 := hsame (hlow (by omega))
        clear hl hset hb2 hsame hlow
        go_wp2
        go_roundg k
        case measure => omega
        case rel => exact ⟨i + 1, by omega, by go_num, hR2, hb1⟩

end Go.Proofs.YtedenhfpbabjkaaGreatDoor
