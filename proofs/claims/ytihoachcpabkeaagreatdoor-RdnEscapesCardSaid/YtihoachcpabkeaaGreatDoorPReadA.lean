/-
  readEscaped, readByte: one byte as the program reads it. By an AI agent.
-/
import Derived.Test.YtihoachcpabkeaaGreatDoorPUint
import Derived.Test.YtihoachcpabkeaaGreatDoorPWrite
import Derived.Test.YtihoachcpabkeaaGreatDoorPCut
namespace Go.Proofs.YtihoachcpabkeaaGreatDoor
open Go.RowKit
set_option linter.unusedVariables false

theorem uint_yes (s : ByteArray) (d f : UInt8) (hs : s.data.toList = [d, f]) (n : Nat) (h : hex2 d f = some n) (w : World) :
    Calls Tryz.prog 103 #[.string s, .int .i64 16, .int .i64 8] w fun e w' => e = .returned (.tuple #[.int .u64 (n : Int), .nilIface]) ∧ Below w.heap.size w w' := by
  have hI := fun w => uint_in s d f hs w
  rw [h] at hI
  simp only [uintV] at hI
  clear h hs
  go_enter Tryz.func103, Tryz.ntmps103
  go_wp2_with (go_at_call 125; fail)
  refine (hI _).mono ?_
  rintro e w1 ⟨rfl, hb⟩
  go_wp2
  go_ret2
  exact ⟨rfl, hb⟩

theorem syn_cell {w : World} (hT : Tabs w) : ∃ ev, w.cell? ⟨5, 0, none⟩ = some ev ∧ (ev = .nilIface ∨ ∃ te pe, ev = .iface te pe) := by
  obtain ⟨tp, p, hsyn⟩ := hT.syn
  refine ⟨.iface tp p, ?_, Or.inr ⟨tp, p, rfl⟩⟩
  have := World.var?_cell (show Tryz.prog.globalNamed "strconv.ErrSyntax" = some 5 by kernel_rfl) hsyn 0
  rw [this]
  rfl

theorem toerr_any (fn s : ByteArray) (b c : Int) (hs : s.size ≤ 281474976710656) (w : World) (hT : Tabs w) :
    Calls Tryz.prog 111 #[.string fn, .string s, .int .i64 b, .int .i64 c, .iface 150 (.int .i64 2)] w fun e w' => ∃ N, e = .returned (badV N) ∧ Below w.heap.size w w' := by
  obtain ⟨ev, hv, hev⟩ := syn_cell hT
  refine Calls.mono (Any.strconv_toError_syntax Tryz.laysC245 fn s b c ev w hs hv hev) ?_
  rintro e w' ⟨N, rfl, _, _, hb⟩
  exact ⟨N, rfl, hb⟩

theorem uint_no (s : ByteArray) (d f : UInt8) (hs : s.data.toList = [d, f]) (h : hex2 d f = none) (w : World) (hT : Tabs w) :
    Calls Tryz.prog 103 #[.string s, .int .i64 16, .int .i64 8] w fun e w' => ∃ N, e = .returned (.tuple #[.int .u64 0, badV N]) ∧ Below w.heap.size w w' := by
  have hI := fun w => uint_in s d f hs w
  rw [h] at hI
  simp only [uintV] at hI
  have hsz : s.size ≤ 281474976710656 := by rw [Lib.size_eq, hs]; simp
  have hE := fun w hT => toerr_any ⟨#[80, 97, 114, 115, 101, 85, 105, 110, 116]⟩ s 16 8 hsz w hT
  clear h hs
  go_enter Tryz.func103, Tryz.ntmps103
  go_wp2_with (go_at_call 125; fail)
  refine (hI _).mono ?_
  rintro e w1 ⟨rfl, hb⟩
  go_wp2_with (go_at_call 111; fail)
  refine (hE _ (hT.below hb)).mono ?_
  rintro e w2 ⟨N, rfl, hb2⟩
  go_wp2
  go_ret2
  exact ⟨N, rfl, hb.trans (hb2.mono hb.size)⟩

/-- What a text that begins with a stroke writes at its beginning, and by how many bytes. -/
def escV : List UInt8 → UInt8 × Nat
  | _ :: d :: r => if isBehind d then (d, 2) else match r with
    | [] => (0, 0)
    | f :: _ => match hex2 d f with
      | some n => (UInt8.ofNat n, 3)
      | none => (0, 0)
  | _ => (0, 0)

set_option maxRecDepth 100000 in
set_option maxHeartbeats 8000000 in
theorem escaped_any (s : ByteArray) (hs : s.size ≤ 1000000) (h0 : 1 ≤ s.size) (w : World) (hT : Tabs w) :
    Calls Tryz.prog 81 #[.string s] w fun e w' => e = .returned (.tuple #[.int .u8 ((escV s.data.toList).1.toNat : Int), .int .i64 ((escV s.data.toList).2 : Int)]) ∧ Below w.heap.size w w' := by
  have hL := Lib.size_eq s
  have hat : ∀ (i : Nat) (hi : i < s.size), s.data.toList[i]? = some s[i] := fun i hi => Lib.data_getElem? s i hi
  have hex := ext_txt s 1 3
  generalize hl : s.data.toList = l at *
  replace hl := hide hl
  match l, hL with
  | [], hL => simp only [List.length_nil] at hL; omega
  | [c], hL =>
    simp only [List.length_cons, List.length_nil] at hL
    have z1 : ¬ ((2 : Int) ≤ (s.size : Int)) := by omega
    have z2 : ((s.size : Int) < 3) := by omega
    simp only [escV]
    clear hat hex hL
    go_enter Tryz.func81, Tryz.ntmps81
    go_wp2
    go_ret2
    exact ⟨rfl, Below.refl _ _⟩
  | c :: d :: r, hL =>
    simp only [List.length_cons] at hL
    have hi1 : 1 < s.size := by omega
    have hx1 : s[1]'hi1 = d := by have := hat 1 hi1; simpa using this.symm
    have z1 : ((2 : Int) ≤ (s.size : Int)) := by omega
    have z11 : ((1 : Int) < (s.size : Int)) := by omega
    have hO := fun w => oneof_behind d w
    cases hd : isBehind d with
    | true =>
      have hv : escV (c :: d :: r) = (d, 2) := by simp [escV, hd]
      rw [hv]
      rw [hd] at hO
      clear hat hex hL hd hv
      go_enter Tryz.func81, Tryz.ntmps81
      go_wp2_with (go_at_call 52; refine (hO _).mono ?_; rintro e w' ⟨rfl, hw⟩; obtain rfl := hw.symm)
      go_ret2
      exact ⟨rfl, Below.refl _ _⟩
    | false =>
      rw [hd] at hO
      cases r with
      | nil =>
        have hv : escV [c, d] = (0, 0) := by simp [escV, hd]
        rw [hv]
        simp only [List.length_nil] at hL
        have z2 : ((s.size : Int) < 3) := by omega
        clear hat hex hL hd hv
        go_enter Tryz.func81, Tryz.ntmps81
        go_wp2_with (go_at_call 52; refine (hO _).mono ?_; rintro e w' ⟨rfl, hw⟩; obtain rfl := hw.symm)
        go_ret2
        exact ⟨rfl, Below.refl _ _⟩
      | cons f q =>
        simp only [List.length_cons] at hL
        have z2 : ¬ ((s.size : Int) < 3) := by omega
        have z3 : ((3 : Int) ≤ (s.size : Int)) := by omega
        obtain ⟨X, hX⟩ : ∃ X, s.extract 1 3 = X := ⟨_, rfl⟩
        have hXd : X.data.toList = [d, f] := by rw [← hX, hex, txt_toList]; rfl
        cases hh : hex2 d f with
        | some n =>
          have hv : escV (c :: d :: f :: q) = (UInt8.ofNat n, 3) := by simp [escV, hd, hh]
          have hn : n < 256 := by
            unfold hex2 at hh
            cases ha : hexV d with
            | none => rw [ha] at hh; cases hh
            | some a =>
              cases hb : hexV f with
              | none => rw [ha, hb] at hh; cases hh
              | some b =>
                rw [ha, hb] at hh
                have := hexV_lt ha
                have := hexV_lt hb
                simp at hh
                omega
          have hU := fun w => uint_yes X d f hXd n hh w
          have hc : IntKind.u8.wrap (n : Int) = ((UInt8.ofNat n).toNat : Int) := by
            rw [IntKind.wrap_u8, UInt8.toNat_ofNat']
            omega
          rw [hv]
          simp only
          generalize UInt8.ofNat n = y at *
          clear hat hex hL hd hv hXd hh hn
          go_enter Tryz.func81, Tryz.ntmps81
          go_wp2_with (first
            | (go_at_call 52; refine (hO _).mono ?_; rintro e w' ⟨rfl, hw⟩; obtain rfl := hw.symm)
            | (go_at_call 103; fail))
          refine (hU _).mono ?_
          rintro e w1 ⟨rfl, hb⟩
          go_wp2
          go_ret2
          exact ⟨rfl, hb⟩
        | none =>
          have hv : escV (c :: d :: f :: q) = (0, 0) := by simp [escV, hd, hh]
          have hU := fun w hT => uint_no X d f hXd hh w hT
          rw [hv]
          simp only
          clear hat hex hL hd hv hXd hh
          go_enter Tryz.func81, Tryz.ntmps81
          go_wp2_with (first
            | (go_at_call 52; refine (hO _).mono ?_; rintro e w' ⟨rfl, hw⟩; obtain rfl := hw.symm)
            | (go_at_call 103; fail))
          refine (hU _ hT).mono ?_
          rintro e w1 ⟨N, rfl, hb⟩
          unfold badV
          go_wp2
          go_ret2
          exact ⟨rfl, hb⟩

/-- What a text writes at its beginning, and by how many bytes. -/
def byteV : List UInt8 → UInt8 × Nat
  | [] => (0, 0)
  | c :: r => if c = 92 then escV (c :: r) else if isSpec c then (0, 0) else (c, 1)

set_option maxRecDepth 100000 in
set_option maxHeartbeats 8000000 in
theorem byte_any (s : ByteArray) (hs : s.size ≤ 1000000) (h0 : 1 ≤ s.size) (w : World) (hT : Tabs w) :
    Calls Tryz.prog 58 #[.string s] w fun e w' => e = .returned (.tuple #[.int .u8 ((byteV s.data.toList).1.toNat : Int), .int .i64 ((byteV s.data.toList).2 : Int)]) ∧ Below w.heap.size w w' := by
  have hE := fun w hT => escaped_any s hs h0 w hT
  have hL := Lib.size_eq s
  have hat : ∀ (i : Nat) (hi : i < s.size), s.data.toList[i]? = some s[i] := fun i hi => Lib.data_getElem? s i hi
  generalize hl : s.data.toList = l at *
  replace hl := hide hl
  cases l with
  | nil => simp only [List.length_nil] at hL; omega
  | cons c r =>
    have hi0 : 0 < s.size := by omega
    have hx0 : s[0]'hi0 = c := by have := hat 0 hi0; simpa using this.symm
    have z0 : ((0 : Int) < (s.size : Int)) := by omega
    have hO := fun w => oneof_spec c w
    by_cases h92 : c = 92
    · subst h92
      have hv : byteV (92 :: r) = escV (92 :: r) := by simp [byteV]
      rw [hv]
      generalize (escV (92 :: r)).1 = y at *
      generalize (escV (92 :: r)).2 = k at *
      clear hat hL hv hO
      go_enter Tryz.func58, Tryz.ntmps58
      go_wp2_with (go_at_call 81; fail)
      refine (hE _ hT).mono ?_
      rintro e w1 ⟨rfl, hb⟩
      go_wp2
      go_ret2
      exact ⟨rfl, hb⟩
    · have n92 : ((c.toNat : Int) == 92) = false := ne8 (k := 92) (by omega) h92
      cases hsc : isSpec c with
      | true =>
        have hv : byteV (c :: r) = (0, 0) := by simp [byteV, h92, hsc]
        rw [hv]
        rw [hsc] at hO
        clear hat hL hv hE h92 hsc
        go_enter Tryz.func58, Tryz.ntmps58
        go_wp2_with (go_at_call 52; refine (hO _).mono ?_; rintro e w' ⟨rfl, hw⟩; obtain rfl := hw.symm)
        go_ret2
        exact ⟨rfl, Below.refl _ _⟩
      | false =>
        have hv : byteV (c :: r) = (c, 1) := by simp [byteV, h92, hsc]
        rw [hv]
        rw [hsc] at hO
        clear hat hL hv hE h92 hsc
        go_enter Tryz.func58, Tryz.ntmps58
        go_wp2_with (go_at_call 52; refine (hO _).mono ?_; rintro e w' ⟨rfl, hw⟩; obtain rfl := hw.symm)
        go_ret2
        exact ⟨rfl, Below.refl _ _⟩

end Go.Proofs.YtihoachcpabkeaaGreatDoor
