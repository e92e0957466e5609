/-
  The reference's pair. By an AI agent.
-/
import Derived.Test.YtihoachcpabkeaaGreatDoorPPair
namespace Go.Proofs.YtihoachcpabkeaaGreatDoor
open Go.RowKit
set_option linter.unusedVariables false

/-- One pair, as the reference reads it. -/
def rdPairS (l : List UInt8) : Option P2 := (eqCut l).bind fun p => if (typ p.1).2 = 0 then none else (rd p.2).map fun v => ((typ p.1).1, v)

set_option maxRecDepth 100000 in
set_option maxHeartbeats 16000000 in
theorem rpair_hit (s A B : ByteArray) (N : Nat) (n : List UInt8) (x : Int) (o : Option (List UInt8)) (hs : s.size ≤ 1000000) (hAt : N < s.size) (heq : s[N]'hAt = 61)
    (hne : Hid (∀ (i : Nat) (hi : i < s.size), i < N → ((s[i].toNat : Int) == 61) = false)) (hXa : s.extract 0 N = A) (hXb : s.extract (N + 1) s.size = B)
    (hTy : ∀ w, Calls Tryz.prog 25 #[.string A] w fun e w' => e = .returned (.tuple #[.string (txt n), .int .i64 x]) ∧ Below w.heap.size w w')
    (hV : ∀ w, Calls Tryz.prog 47 #[.string B] w fun e w' => e = .returned (.tuple #[.string (txt (o.getD [])), .bool o.isSome]) ∧ Below w.heap.size w w') (R : Option P2) (hR : R = if x = 0 then none else o.map fun v => (n, v)) (w : World) (hT : TM w) :
    Calls Tryz.prog 32 #[.string s] w (PairPost R w) := by
  have hP0 := Bx.new w ⟨#[]⟩ ⟨#[]⟩ 46
  have hbw := below1 w (.cells #[.string ⟨#[]⟩, .string ⟨#[]⟩] 46)
  have hTw := hT.below hbw
  have hgN := get_run s N 61 hAt heq (N : Int) rfl
  have HN := hide hAt
  replace hR := hide hR
  clear heq hAt
  go_enter Tryz.func32, Tryz.ntmps32
  go_wp2
  generalize w.alloc (.cells #[.string ⟨#[]⟩, .string ⟨#[]⟩] 46) = w1 at *
  go_loopg [4] N (fun k s4 wx => ∃ i : Nat, i + k = N ∧ s4 = .int .i64 (i : Int) ∧ wx = w1)
  case atStart => exact ⟨0, by omega, rfl, rfl⟩
  case round =>
    obtain ⟨i, hig, rfl, rfl⟩ := hrel
    cases gk with
    | succ k =>
      have hi : i < s.size := by have := HN.out; omega
      have hiz : (i : Int) < (s.size : Int) := by omega
      have hc := hne.out i hi (by omega)
      clear hne hgN hTy hV hXa hXb
      go_wp2
      go_roundg k
      case measure => omega
      case rel => exact ⟨i + 1, by omega, by go_num, rfl⟩
    | zero =>
      obtain rfl : i = N := by omega
      have hAt := HN.out
      have hiz : (i : Int) < (s.size : Int) := by omega
      have hin : ((i : Int) == (s.size : Int)) = false := beq_false_of_ne (by omega)
      have hil : (i : Int) ≤ (s.size : Int) := by omega
      have hil2 : (i : Int) + 1 ≤ (s.size : Int) := by omega
      have hT1 := hTw
      have hc1 := hbw
      clear hne hTw hbw hAt
      go_wp2_with (go_at_call 25; fail)
      refine (hTy _).mono ?_
      rintro e w2 ⟨rfl, hb2⟩
      have hP2 := hP0.below hb2
      have hc2 := hc1.trans (hb2.mono hc1.size)
      clear hP0 hT1 hTy hb2 hc1
      go_wp2_with (go_at_call 47; fail)
      refine (hV _).mono ?_
      rintro e w3 ⟨rfl, hb3⟩
      obtain ⟨c0, c1, _, f0, f1⟩ := hP2.below hb3
      have hc3 := hc2.trans (hb3.mono hc2.size)
      clear hP2 hV hb3 hc2
      by_cases hx : x = 0
      · subst hx
        have hRn : Hid (R = none) := hide (by rw [hR.out, if_pos rfl])
        cases o with
        | none =>
          go_wp2
          (try simp only [Exit.inBlock, Exit.then])
          obtain ⟨g0, g1⟩ := end_cells c0 c1 (.string (txt n)) (.string (txt []))
          have hbe := (hc3.setCell (p := ⟨w.heap.size, 0, none⟩) (Nat.le_refl _) (.string (txt n))).setCell (p := ⟨w.heap.size, 1, none⟩) (Nat.le_refl _) (.string (txt []))
          refine bodyPost_ret (v := .tuple #[.agg #[.string (txt n), .string (txt [])], .bool false]) ?_ rfl ⟨txt n, txt [], by rw [hRn.out]; rfl, fun a h => (by rw [hRn.out] at h; cases h), hbe⟩
          rw [results_cell_tmp rfl]
          go_simp
        | some v =>
          go_wp2
          (try simp only [Exit.inBlock, Exit.then])
          obtain ⟨g0, g1⟩ := end_cells c0 c1 (.string (txt n)) (.string (txt v))
          have hbe := (hc3.setCell (p := ⟨w.heap.size, 0, none⟩) (Nat.le_refl _) (.string (txt n))).setCell (p := ⟨w.heap.size, 1, none⟩) (Nat.le_refl _) (.string (txt v))
          refine bodyPost_ret (v := .tuple #[.agg #[.string (txt n), .string (txt v)], .bool false]) ?_ rfl ⟨txt n, txt v, by rw [hRn.out]; rfl, fun a h => (by rw [hRn.out] at h; cases h), hbe⟩
          rw [results_cell_tmp rfl]
          go_simp
      · have hx0 : (x == 0) = false := beq_false_of_ne hx
        have hRn : Hid (R = o.map fun v => (n, v)) := hide (by rw [hR.out, if_neg hx])
        have HX := hide hx
        clear hx
        cases o with
        | none =>
          go_wp2
          (try simp only [Exit.inBlock, Exit.then])
          obtain ⟨g0, g1⟩ := end_cells c0 c1 (.string (txt n)) (.string (txt []))
          have hbe := (hc3.setCell (p := ⟨w.heap.size, 0, none⟩) (Nat.le_refl _) (.string (txt n))).setCell (p := ⟨w.heap.size, 1, none⟩) (Nat.le_refl _) (.string (txt []))
          refine bodyPost_ret (v := .tuple #[.agg #[.string (txt n), .string (txt [])], .bool false]) ?_ rfl ⟨txt n, txt [], by rw [hRn.out]; rfl, fun a h => (by rw [hRn.out] at h; cases h), hbe⟩
          rw [results_cell_tmp rfl]
          go_simp
        | some v =>
          go_wp2
          (try simp only [Exit.inBlock, Exit.then])
          obtain ⟨g0, g1⟩ := end_cells c0 c1 (.string (txt n)) (.string (txt v))
          have hbe := (hc3.setCell (p := ⟨w.heap.size, 0, none⟩) (Nat.le_refl _) (.string (txt n))).setCell (p := ⟨w.heap.size, 1, none⟩) (Nat.le_refl _) (.string (txt v))
          refine bodyPost_ret (v := .tuple #[.agg #[.string (txt n), .string (txt v)], .bool true]) ?_ rfl ⟨txt n, txt v, by rw [hRn.out]; rfl, fun a h => (by rw [hRn.out] at h; obtain rfl := Option.some.inj h; exact ⟨rfl, rfl⟩), hbe⟩
          rw [results_cell_tmp rfl]
          go_simp
          exact HX.out

set_option maxRecDepth 100000 in
set_option maxHeartbeats 16000000 in
theorem rpair_any (s : ByteArray) (hs : s.size ≤ 1000000) (w : World) (hT : TM w) :
    Calls Tryz.prog 32 #[.string s] w (PairPost (rdPairS s.data.toList) w) := by
  have hL := Lib.size_eq s
  have hP0 := Bx.new w ⟨#[]⟩ ⟨#[]⟩ 46
  have hbw := below1 w (.cells #[.string ⟨#[]⟩, .string ⟨#[]⟩] 46)
  have hTw := hT.below hbw
  have hat : ∀ (i : Nat) (hi : i < s.size), s.data.toList[i]? = some s[i] := fun i hi => Lib.data_getElem? s i hi
  have hex := fun a b => ext_txt s a b
  generalize hl : s.data.toList = l at *
  replace hl := hide hl
  rcases eq_cases l with ⟨hn, h61⟩ | ⟨a, b, hn, he, h61⟩
  · have hr : rdPairS l = none := by unfold rdPairS; rw [hn]; rfl
    rw [hr]
    have hne : Hid (∀ (i : Nat) (hi : i < s.size), ((s[i].toNat : Int) == 61) = false) := hide fun i hi => by
      refine beq_false_of_ne fun e => h61 ?_
      have e1 : s[i] = 61 := UInt8.toNat_inj.1 (by have : (61 : UInt8).toNat = 61 := rfl; omega)
      have := hat i hi
      rw [e1] at this
      exact List.mem_of_getElem? this
    clear hr hn h61 hat hex hL
    go_enter Tryz.func32, Tryz.ntmps32
    go_wp2
    generalize w.alloc (.cells #[.string ⟨#[]⟩, .string ⟨#[]⟩] 46) = w1 at *
    obtain ⟨c0, c1, _, f0, f1⟩ := hP0
    go_loopg [4] s.size (fun k s4 wx => ∃ i : Nat, i + k = s.size ∧ s4 = .int .i64 (i : Int) ∧ wx = w1)
    case atStart => exact ⟨0, by omega, rfl, rfl⟩
    case round =>
      obtain ⟨i, hig, rfl, rfl⟩ := hrel
      cases gk with
      | zero =>
        obtain rfl : i = s.size := by omega
        have hiz : ¬ ((s.size : Int) < (s.size : Int)) := by omega
        clear hne
        go_wp2
        (try simp only [Exit.inBlock, Exit.then])
        obtain ⟨g0, g1⟩ := end_cells c0 c1 (.string ⟨#[]⟩) (.string ⟨#[]⟩)
        have hbe := (hbw.setCell (p := ⟨w.heap.size, 0, none⟩) (Nat.le_refl _) (.string ⟨#[]⟩)).setCell (p := ⟨w.heap.size, 1, none⟩) (Nat.le_refl _) (.string ⟨#[]⟩)
        refine bodyPost_ret (v := .tuple #[.agg #[.string ⟨#[]⟩, .string ⟨#[]⟩], .bool false]) ?_ rfl ⟨⟨#[]⟩, ⟨#[]⟩, rfl, fun a h => (by cases h), hbe⟩
        rw [results_cell_tmp rfl]
        go_simp
      | succ k =>
        have hi : i < s.size := by omega
        have hiz : (i : Int) < (s.size : Int) := by omega
        have hc := hne.out i hi
        clear hne
        go_wp2
        go_roundg k
        case measure => omega
        case rel => exact ⟨i + 1, by omega, by go_num, rfl⟩
  · have hlen : s.size = a.length + (b.length + 1) := by
      have := congrArg List.length he
      rw [List.length_append, List.length_cons] at this
      omega
    have hTy := fun w => rtype_any (txt a) (by rw [txt_size]; omega) w
    have hV := fun w => rread_any (txt b) (by rw [txt_size]; omega) w
    simp only [txt_toList] at hTy hV
    have hr : rdPairS l = if (typ a).2 = 0 then none else (rd b).map fun v => ((typ a).1, v) := by unfold rdPairS; rw [hn]; rfl
    rw [hr]
    obtain ⟨N, hN⟩ : ∃ N, N = a.length := ⟨_, rfl⟩
    have hne : Hid (∀ (i : Nat) (hi : i < s.size), i < N → ((s[i].toNat : Int) == 61) = false) := hide fun i hi hia => by
      refine beq_false_of_ne fun e => h61 ?_
      have e1 : s[i] = 61 := UInt8.toNat_inj.1 (by have : (61 : UInt8).toNat = 61 := rfl; omega)
      have := hat i hi
      rw [e1, he, List.getElem?_append_left (by omega)] at this
      exact List.mem_of_getElem? this
    have hAt : N < s.size := by omega
    have heq : s[N]'hAt = 61 := by
      have := hat N hAt
      have e0 : N - a.length = 0 := by omega
      rw [he, List.getElem?_append_right (by omega), e0] at this
      simp at this
      exact this.symm
    have hXa : s.extract 0 N = txt a := by rw [hex, he, hN]; simp
    have hXb : s.extract (N + 1) s.size = txt b := by
      have e1 : a ++ 61 :: b = (a ++ [61]) ++ b := by simp
      rw [hex, he, e1, List.drop_left' (by simp [hN]), List.take_of_length_le (by omega)]
    exact rpair_hit s (txt a) (txt b) N _ _ _ hs hAt heq hne hXa hXb hTy hV _ rfl w hT

end Go.Proofs.YtihoachcpabkeaaGreatDoor
