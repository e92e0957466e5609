/-
  readPair, and the reference's pair: a pair as its text writes it. By an AI agent.
-/
import Derived.Test.YtihoachcpabkeaaGreatDoorPEq
import Derived.Test.YtihoachcpabkeaaGreatDoorPRRead
import Derived.Test.YtihoachcpabkeaaGreatDoorMB
import Derived.Laws.ResultCell
namespace Go.Proofs.YtihoachcpabkeaaGreatDoor
open Go.RowKit
set_option linter.unusedVariables false

/-- A pair of texts lies in block B and may be written. -/
structure Bx (w : World) (B : Nat) (x y : ByteArray) : Prop where
  c0 : w.cell? ⟨B, 0, none⟩ = some (.string x)
  c1 : w.cell? ⟨B, 1, none⟩ = some (.string y)
  lt : B < w.heap.size
  f0 : w.frozen? ⟨B, 0, none⟩ = false
  f1 : w.frozen? ⟨B, 1, none⟩ = false
theorem Bx.below {w w' : World} {B : Nat} {x y : ByteArray} (h : Bx w B x y) (hb : Below w.heap.size w w') : Bx w' B x y :=
  ⟨(hb.cell (p := ⟨B, 0, none⟩) h.lt).trans h.c0, (hb.cell (p := ⟨B, 1, none⟩) h.lt).trans h.c1, Nat.lt_of_lt_of_le h.lt hb.size, (hb.frozen (p := ⟨B, 0, none⟩) h.lt).trans h.f0, (hb.frozen (p := ⟨B, 1, none⟩) h.lt).trans h.f1⟩
theorem Bx.new (w : World) (x y : ByteArray) (e : TypeId) : Bx (w.alloc (.cells #[.string x, .string y] e)) w.heap.size x y :=
  ⟨by rw [World.cell?_alloc_at (hn := by simp)]; rfl, by rw [World.cell?_alloc_at (hn := by simp)]; rfl, by simp, World.frozen?_alloc_at _ _ _ _ rfl, World.frozen?_alloc_at _ _ _ _ rfl⟩

theorem cutp_miss (s : ByteArray) (hs : s.size ≤ 1000000) (h : 61 ∉ s.data.toList) (w : World) (hM : Mx w) :
    Calls Tryz.prog 42 #[.string s, .string ⟨#[61]⟩] w fun e w' => e = .returned (.tuple #[.string s, .string ⟨#[]⟩, .bool false]) ∧ Below w.heap.size w w' := by
  obtain ⟨m, hm⟩ := hM.max
  have hc := Tryz.strings_Cut s ⟨#[61]⟩ m w (by omega) hm
  rw [show (⟨#[61]⟩ : ByteArray).data.toList = [61] from rfl, cut_none h] at hc
  refine hc.mono ?_
  rintro e w' ⟨rfl, n, rfl⟩
  exact ⟨rfl, Below.drewN (Below.refl _ _) n⟩
theorem cutp_hit (s : ByteArray) (hs : s.size ≤ 1000000) (a b : List UInt8) (he : s.data.toList = a ++ 61 :: b) (h : 61 ∉ a) (w : World) (hM : Mx w) :
    Calls Tryz.prog 42 #[.string s, .string ⟨#[61]⟩] w fun e w' => e = .returned (.tuple #[.string (txt a), .string (txt b), .bool true]) ∧ Below w.heap.size w w' := by
  obtain ⟨m, hm⟩ := hM.max
  have hc := Tryz.strings_Cut s ⟨#[61]⟩ m w (by omega) hm
  rw [show (⟨#[61]⟩ : ByteArray).data.toList = [61] from rfl, he, cut_some b h] at hc
  refine hc.mono ?_
  rintro e w' ⟨rfl, n, rfl⟩
  exact ⟨rfl, Below.drewN (Below.refl _ _) n⟩

/-- What is told of a piece: the pair, or that it is none. -/
structure PairPost (o : Option P2) (w : World) (e : Ending) (w' : World) : Prop where
  out : ∃ X Y, e = .returned (.tuple #[.agg #[.string X, .string Y], .bool o.isSome]) ∧ (∀ a, o = some a → X = txt a.1 ∧ Y = txt a.2) ∧ Below w.heap.size w w'

set_option maxRecDepth 100000 in
set_option maxHeartbeats 16000000 in
theorem ppair_any (s : ByteArray) (hs : s.size ≤ 1000000) (w : World) (hT : TM w) :
    Calls Tryz.prog 27 #[.string s] w (PairPost (rqPairT s.data.toList) w) := by
  have hP0 := Bx.new w .empty .empty 43
  have hTw := hT.below (below1 w (.cells #[.string .empty, .string .empty] 43))
  rcases eq_cases s.data.toList with ⟨hn, h61⟩ | ⟨a, b, hn, he, h61⟩
  · have hC := fun w hM => cutp_miss s hs h61 w hM
    have hr : rqPairT s.data.toList = none := by unfold rqPairT; rw [hn]; rfl
    rw [hr]
    clear hr hn h61
    go_enter Tryz.func27, Tryz.ntmps27
    go_wp2_with (go_at_call 42; fail)
    refine (hC _ hTw.mx).mono ?_
    rintro e w1 ⟨rfl, hb1⟩
    obtain ⟨c0, c1, _, f0, f1⟩ := hP0.below hb1
    have hc := (below1 w (.cells #[.string .empty, .string .empty] 43)).trans (hb1.mono (by simp))
    clear hP0 hTw hC hb1
    go_wp2
    (try simp only [Exit.inBlock, Exit.then])
    obtain ⟨g0, g1⟩ := end_cells c0 c1 (.string ⟨#[]⟩) (.string ⟨#[]⟩)
    have hbe := (hc.setCell (p := ⟨w.heap.size, 0, none⟩) (Nat.le_refl _) (.string ⟨#[]⟩)).setCell (p := ⟨w.heap.size, 1, none⟩) (Nat.le_refl _) (.string ⟨#[]⟩)
    refine bodyPost_ret (v := .tuple #[.agg #[.string ⟨#[]⟩, .string ⟨#[]⟩], .bool false]) ?_ rfl ⟨⟨#[]⟩, ⟨#[]⟩, rfl, fun a h => (by cases h), hbe⟩
    rw [results_cell_tmp rfl]
    go_simp
  · have hC := fun w hM => cutp_hit s hs a b he h61 w hM
    have hlen := congrArg List.length he
    rw [← Lib.size_eq, List.length_append, List.length_cons] at hlen
    have hTy := fun w hT => type_any (txt a) w hT
    have hV := fun w hT => pread_any (txt b) (by rw [txt_size]; omega) w hT
    simp only [txt_toList] at hTy hV
    have hr : rqPairT s.data.toList = (rqFrom true b).map fun v => ((typ a).1, v) := by unfold rqPairT; rw [hn]; rfl
    rw [hr]
    clear hr hn h61 he hlen
    generalize (typ a).1 = n at *
    generalize (typ a).2 = x at *
    generalize rqFrom true b = o at *
    go_enter Tryz.func27, Tryz.ntmps27
    go_wp2_with (go_at_call 42; fail)
    refine (hC _ hTw.mx).mono ?_
    rintro e w1 ⟨rfl, hb1⟩
    have hP1 := hP0.below hb1
    have hT1 := hTw.below hb1
    have hc1 := (below1 w (.cells #[.string .empty, .string .empty] 43)).trans (hb1.mono (by simp))
    clear hP0 hTw hC hb1
    go_wp2_with (go_at_call 33; fail)
    refine (hTy _ hT1.tt.types).mono ?_
    rintro e w2 ⟨rfl, hb2⟩
    have hP2 := hP1.below hb2
    have hT2 := hT1.below hb2
    have hc2 := hc1.trans (hb2.mono hc1.size)
    clear hP1 hT1 hTy hb2 hc1
    go_wp2_with (go_at_call 43; fail)
    refine (hV _ hT2.tt.tabs).mono ?_
    rintro e w3 ⟨rfl, hb3⟩
    obtain ⟨c0, c1, _, f0, f1⟩ := hP2.below hb3
    have hc3 := hc2.trans (hb3.mono hc2.size)
    clear hP2 hT2 hV hb3 hc2
    go_wp2
    (try simp only [Exit.inBlock, Exit.then])
    obtain ⟨g0, g1⟩ := end_cells c0 c1 (.string (txt n)) (.string (txt (o.getD [])))
    have hbe := (hc3.setCell (p := ⟨w.heap.size, 0, none⟩) (Nat.le_refl _) (.string (txt n))).setCell (p := ⟨w.heap.size, 1, none⟩) (Nat.le_refl _) (.string (txt (o.getD [])))
    refine bodyPost_ret (v := .tuple #[.agg #[.string (txt n), .string (txt (o.getD []))], .bool o.isSome]) ?_ rfl ⟨txt n, txt (o.getD []), by cases o <;> rfl, fun a h => ?_, hbe⟩
    · rw [results_cell_tmp rfl]
      go_simp
    · cases o with
      | none => cases h
      | some v =>
        obtain rfl := Option.some.inj h
        exact ⟨rfl, rfl⟩

end Go.Proofs.YtihoachcpabkeaaGreatDoor
