/-
  isOneOf, needsEscape, appendValue: a value as the program writes it. By an AI agent.
-/
import Derived.Test.YtihoachcpabkeaaGreatDoorPEsc
import Derived.BigQuiet
import Derived.Deep.QuietTactic
import Derived.Deep.LoopGhost
import Derived.Handy
import Derived.Lib.Strings
import Derived.Lib.IndexBytes
import Derived.Test.YtihoachcpabkeaaGreatDoorPValue
import Derived.Test.YtihoachcpabkeaaGreatDoorShelf
namespace Go.Proofs.YtihoachcpabkeaaGreatDoor
open Go.RowKit
set_option linter.unusedVariables false


theorem one_fin : ∀ j : Fin 256, decide ((Lib.indexByte [44, 43, 34, 92, 60, 62, 59] (UInt8.ofNat j.val)) ≥ 0) = isSpec (UInt8.ofNat j.val) := by decide +kernel
theorem two_fin : ∀ j : Fin 256, decide ((Lib.indexByte [44, 43, 34, 92, 60, 62, 59, 35, 61, 32] (UInt8.ofNat j.val)) ≥ 0) = isBehind (UInt8.ofNat j.val) := by decide +kernel
theorem u8_self (c : UInt8) : UInt8.ofNat c.toNat = c := by simp
theorem one_of (c : UInt8) : decide ((Lib.indexByte [44, 43, 34, 92, 60, 62, 59] c) ≥ 0) = isSpec c := by
  have := one_fin ⟨c.toNat, c.toNat_lt⟩
  simpa only [u8_self] using this
theorem two_of (c : UInt8) : decide ((Lib.indexByte [44, 43, 34, 92, 60, 62, 59, 35, 61, 32] c) ≥ 0) = isBehind c := by
  have := two_fin ⟨c.toNat, c.toNat_lt⟩
  simpa only [u8_self] using this

set_option maxRecDepth 100000 in
set_option maxHeartbeats 4000000 in
theorem oneof_run (s : ByteArray) (c : UInt8) (w : World) :
    Calls Tryz.prog 52 #[.string s, .int .u8 (c.toNat : Int)] w fun e w' => e = .returned (.bool (decide (Lib.indexByte s.data.toList c ≥ 0))) ∧ w' = w := by
  have hI := fun w => Tryz.strings_IndexByte s (c.toNat : Int) w
  have e1 : ((c.toNat : Int)).toNat.toUInt8 = c := by simp
  rw [e1] at hI
  generalize Lib.indexByte s.data.toList c = I at *
  go_enter Tryz.func52, Tryz.ntmps52
  go_wp2_with (go_at_call 73; refine (hI _).mono ?_; rintro e w' ⟨rfl, rfl⟩)
  go_ret
  exact ⟨rfl, rfl⟩
theorem oneof_spec (c : UInt8) (w : World) : Calls Tryz.prog 52 #[.string ⟨#[44, 43, 34, 92, 60, 62, 59]⟩, .int .u8 (c.toNat : Int)] w fun e w' => e = .returned (.bool (isSpec c)) ∧ w' = w := by
  have := oneof_run ⟨#[44, 43, 34, 92, 60, 62, 59]⟩ c w
  rw [show (⟨#[44, 43, 34, 92, 60, 62, 59]⟩ : ByteArray).data.toList = [44, 43, 34, 92, 60, 62, 59] from rfl, one_of] at this
  exact this
theorem oneof_behind (c : UInt8) (w : World) : Calls Tryz.prog 52 #[.string ⟨#[44, 43, 34, 92, 60, 62, 59, 35, 61, 32]⟩, .int .u8 (c.toNat : Int)] w fun e w' => e = .returned (.bool (isBehind c)) ∧ w' = w := by
  have := oneof_run ⟨#[44, 43, 34, 92, 60, 62, 59, 35, 61, 32]⟩ c w
  rw [show (⟨#[44, 43, 34, 92, 60, 62, 59, 35, 61, 32]⟩ : ByteArray).data.toList = [44, 43, 34, 92, 60, 62, 59, 35, 61, 32] from rfl, two_of] at this
  exact this

/-- Whether a byte needs a stroke. -/
def needs (first last : Bool) (c : UInt8) : Bool := if c = 35 then first else if c = 32 then first || last else isSpec c

inductive WrIs (first last : Bool) (c : UInt8) : Prop where
  | stroke (hc : 32 ≤ c.toNat ∧ c.toNat ≤ 126) (hn : needs first last c = true) (e : esc first last c = [92, c])
  | plain (hc : 32 ≤ c.toNat ∧ c.toNat ≤ 126) (hn : needs first last c = false) (e : esc first last c = [c])
  | hex (hc : c.toNat < 32 ∨ 126 < c.toNat) (e : esc first last c = [92, hexD (c.toNat / 16), hexD (c.toNat % 16)])

theorem spec_range {c : UInt8} (h : isSpec c = true) : (32 ≤ c.toNat ∧ c.toNat ≤ 126) ∧ c ≠ 32 ∧ c ≠ 35 := by
  rcases spec_cases c with rfl | rfl | rfl | rfl | rfl | rfl | rfl | h'
  all_goals first
    | decide
    | (rw [h'] at h; cases h)

theorem wr_is (first last : Bool) (c : UInt8) : WrIs first last c := by
  cases esc_is first last c with
  | spec h e =>
    obtain ⟨h1, h2, h3⟩ := spec_range h
    exact .stroke h1 (by unfold needs; rw [if_neg h3, if_neg h2, h]) e
  | ahead h h1 hc e =>
    subst h1
    rcases hc with rfl | rfl
    · exact .stroke (by decide) (by simp [needs]) e
    · exact .stroke (by decide) (by simp [needs]) e
  | behind h h0 h1 hc e =>
    subst h1 hc
    exact .stroke (by decide) (by simp [needs]) e
  | hex h hc n1 n2 e => exact .hex hc e
  | inside h h0 h1 hc e =>
    subst h0 h1 hc
    exact .plain (by decide) (by simp [needs]) e
  | hash h h0 hc e =>
    subst h0 hc
    exact .plain (by decide) (by simp [needs]) e
  | plain h n1 n2 hc e => exact .plain hc (by unfold needs; rw [if_neg n2, if_neg n1, h]) e

set_option maxRecDepth 100000 in
set_option maxHeartbeats 4000000 in
theorem needs_any (s : ByteArray) (hs : s.size ≤ 1000000) (i : Nat) (hi : i < s.size) (c : UInt8) (hx : s[i]'hi = c) (w : World) :
    Calls Tryz.prog 36 #[.string s, .int .i64 (i : Int)] w fun e w' => e = .returned (.bool (needs (decide (i = 0)) (decide (i + 1 = s.size)) c)) ∧ w' = w := by
  have hO := fun w => oneof_spec c w
  have hiz : (i : Int) < (s.size : Int) := by omega
  have f0 : ((i : Int) == 0) = decide (i = 0) := by rw [Bool.eq_iff_iff, beq_iff_eq, decide_eq_true_iff]; omega
  have f1 : ((i : Int) == (s.size : Int) - 1) = decide (i + 1 = s.size) := by rw [Bool.eq_iff_iff, beq_iff_eq, decide_eq_true_iff]; omega
  generalize decide (i = 0) = b0 at *
  generalize decide (i + 1 = s.size) = b1 at *
  by_cases h35 : c = 35
  · subst h35
    have hr : needs b0 b1 35 = b0 := by simp [needs]
    rw [hr]
    clear hr
    go_enter Tryz.func36, Tryz.ntmps36
    go_wp2
    go_ret
    exact ⟨rfl, rfl⟩
  · have g35 : ((c.toNat : Int) == 35) = false := ne8 (k := 35) (by omega) h35
    by_cases h32 : c = 32
    · subst h32
      have hr : needs b0 b1 32 = (b0 || b1) := by simp [needs]
      rw [hr]
      clear hr
      cases b0
      · go_enter Tryz.func36, Tryz.ntmps36
        go_wp2
        go_ret
        exact ⟨rfl, rfl⟩
      · go_enter Tryz.func36, Tryz.ntmps36
        go_wp2
        go_ret
        exact ⟨rfl, rfl⟩
    · have g32 : ((c.toNat : Int) == 32) = false := ne8 (k := 32) (by omega) h32
      have hr : needs b0 b1 c = isSpec c := by simp [needs, h35, h32]
      rw [hr]
      clear hr h35 h32 f0 f1
      go_enter Tryz.func36, Tryz.ntmps36
      go_wp2_with (go_at_call 52; refine (hO _).mono ?_; rintro e w' ⟨rfl, rfl⟩)
      go_ret
      exact ⟨rfl, rfl⟩

set_option maxRecDepth 100000 in
set_option maxHeartbeats 16000000 in
theorem append_any (s : ByteArray) (hs : s.size ≤ 1000000) (v0 : Value) (p : List UInt8) (hp : p.length ≤ 10000000) (w : World) (base : Nat) (hbase : base ≤ w.heap.size) (hown : w.ownsRow base 5 1 v0 p.length (bys p)) :
    Calls Tryz.prog 22 #[v0, .string s] w fun e w' => ∃ v', e = .returned v' ∧ w'.ownsRow base 5 1 v' (p ++ wrV s.data.toList).length (bys (p ++ wrV s.data.toList)) ∧ Below base w w' := by
  have hL := hide (Lib.size_eq s)
  have hat : ∀ (i : Nat) (hi : i < s.size), s.data.toList[i]? = some s[i] := fun i hi => Lib.data_getElem? s i hi
  have hN := fun (i : Nat) (hi : i < s.size) (c : UInt8) (hx : s[i]'hi = c) w => needs_any s hs i hi c hx w
  generalize hl : s.data.toList = l at *
  replace hl := hide hl
  replace hat := hide hat
  replace hN := hide hN
  have hwl := hide (wr_len l)
  go_enter Tryz.func22, Tryz.ntmps22
  go_wp2
  go_loopg [0, 9] s.size (fun k s0 s9 wx => ∃ (i : Nat) (o : List UInt8), i + k = s.size ∧ s9 = .int .i64 (i : Int) ∧ Hid (o ++ wrFrom (decide (i = 0)) (l.drop i) = wrV l) ∧ wx.ownsRow base 5 1 s0 (p ++ o).length (bys (p ++ o)) ∧ Below base w wx)
  case atStart => exact ⟨0, [], by omega, rfl, hide rfl, by simpa using hown, Below.refl _ _⟩
  case round =>
    obtain ⟨i, o, hig, rfl, ho, hor, hbr⟩ := hrel
    clear hown
    cases gk with
    | zero =>
      obtain rfl : i = s.size := by omega
      have hiz : ¬ ((s.size : Int) < (s.size : Int)) := by omega
      have hR : Hid (o = wrV l) := hide (by
        have := ho.out
        rw [List.drop_eq_nil_of_le (by rw [← hL.out]; exact Nat.le_refl _)] at this
        simpa [wrFrom] using this)
      rw [hR.out] at hor
      clear ho
      go_wp2
      go_ret
      exact ⟨_, rfl, by rw [← List.length_append]; exact hor, hbr⟩
    | succ k =>
      have hi : i < s.size := by omega
      have hiz : (i : Int) < (s.size : Int) := by omega
      obtain ⟨c, hx⟩ : ∃ c : UInt8, s[i]'hi = c := ⟨_, rfl⟩
      have hxl : l[i]? = some c := by rw [hat.out i hi, hx]
      have hlen : Hid ((p ++ o).length ≤ 13000000) := hide (by
        have h1 := congrArg List.length ho.out
        have h2 := hwl.out
        have h3 := hL.out
        rw [List.length_append] at h1
        rw [List.length_append]
        omega)
      have hne := fun w => hN.out i hi c hx w
      have hnx := fun x h => wr_at ho.out hxl x h
      have hlast : decide (i + 1 = l.length) = decide (i + 1 = s.size) := by rw [hL.out]
      rw [hlast] at hnx
      replace hnx := hide hnx
      have hE := wr_is (decide (i = 0)) (decide (i + 1 = s.size)) c
      have hap : ∀ x : List UInt8, p ++ o ++ x = p ++ (o ++ x) := fun x => List.append_assoc _ _ _
      clear hxl ho hlast
      cases hE with
      | stroke hc hn e =>
        rw [hn] at hne
        have hnext := hide (hnx.out _ e)
        have c1 : ¬ ((c.toNat : Int) < 32) := by omega
        have c2 : ¬ ((126 : Int) < (c.toNat : Int)) := by omega
        clear hnx e hc hn
        have hone : (wr.alloc (.cells #[.int .u8 92, .int .u8 (c.toNat : Int)] 5)).ownsRow wr.heap.size 5 1 (.slice (some ⟨wr.heap.size, 0, none⟩) 2 2) 2 (bys [92, c]) := lit2 wr 92 c
        have hH := Has.own hone
        have hor1 := hor.alloc (.cells #[.int .u8 92, .int .u8 (c.toNat : Int)] 5)
        have hbr1 := hbr.alloc (Nat.le_trans hbase hbr.size) (.cells #[.int .u8 92, .int .u8 (c.toNat : Int)] 5)
        have hs1 := Nat.le_trans hbase hbr1.size
        clear hone hor hbr
        go_wp2_with (first
          | (go_at_call 36; refine (hne _).mono ?_; rintro e w' ⟨rfl, rfl⟩)
          | (at_builtin; go_must (refine app8 _ rfl (.tmp 39) (.tmp 41) rfl base _ _ (p ++ o) rfl hor1 _ _ 2 2 [92, c] rfl hH (by have := hlen.out; omega) hs1 ?_)))
        intro v' w3 hown3 hb3 _
        have hb4 := hbr1.trans hb3
        clear hor1 hbr1 hs1 hH hb3
        go_wp2
        go_roundg k
        case measure => omega
        case rel => exact ⟨i + 1, o ++ [92, c], by omega, by go_num, hnext, by simpa [hap, Nat.add_assoc] using hown3, hb4⟩
      | plain hc hn e =>
        rw [hn] at hne
        have hnext := hide (hnx.out _ e)
        have c1 : ¬ ((c.toNat : Int) < 32) := by omega
        have c2 : ¬ ((126 : Int) < (c.toNat : Int)) := by omega
        clear hnx e hc hn
        have hone : (wr.alloc (.cells #[.int .u8 (c.toNat : Int)] 5)).ownsRow wr.heap.size 5 1 (.slice (some ⟨wr.heap.size, 0, none⟩) 1 1) 1 (bys [c]) := one8 wr c
        have hH := Has.own hone
        have hor1 := hor.alloc (.cells #[.int .u8 (c.toNat : Int)] 5)
        have hbr1 := hbr.alloc (Nat.le_trans hbase hbr.size) (.cells #[.int .u8 (c.toNat : Int)] 5)
        have hs1 := Nat.le_trans hbase hbr1.size
        clear hone hor hbr
        go_wp2_with (first
          | (go_at_call 36; refine (hne _).mono ?_; rintro e w' ⟨rfl, rfl⟩)
          | (at_builtin; go_must (refine app8 _ rfl (.tmp 15) (.tmp 17) rfl base _ _ (p ++ o) rfl hor1 _ _ 1 1 [c] rfl hH (by have := hlen.out; omega) hs1 ?_)))
        intro v' w3 hown3 hb3 _
        have hb4 := hbr1.trans hb3
        clear hor1 hbr1 hs1 hH hb3
        go_wp2
        go_roundg k
        case measure => omega
        case rel => exact ⟨i + 1, o ++ [c], by omega, by go_num, hnext, by simpa [hap, Nat.add_assoc] using hown3, hb4⟩
      | hex hc e =>
        have hnext := hide (hnx.out _ e)
        have hlt := c.toNat_lt
        have hq := hex_at (c.toNat / 16) (by omega)
        have hr := hex_at (c.toNat % 16) (by omega)
        have sh := shr_at c
        have an := and_at c
        generalize hexD (c.toNat / 16) = d1 at *
        generalize hexD (c.toNat % 16) = d2 at *
        generalize c.toNat / 16 = q at *
        generalize c.toNat % 16 = r at *
        have HB := hbr.size
        clear hnx e hne
        rcases hc with c1 | c1
        · have c2 : ((c.toNat : Int) < 32) := by omega
          clear c1 hlt
          go_wp2_with fail
          refine grow_begin_at base (by kernel_rfl) ?_
          have hbr0 : Below base w wr.drew := hbr.trans ((Below.refl _ _).drew)
          have hor0 := own_below hor (Below.refl wr.heap.size wr).drew
          have hs0 := Nat.le_trans hbase hbr0.size
          clear hor hbr HB
          generalize wr.drew = a0 at *
          refine grow_take 0 (some 26) (v := ?va0) rfl rfl (by kernel_rfl) (by kernel_rfl) (by kernel_rfl) (fun _ _ _ h => h) (by rfl) (fun W hW => ?ya0) ?_
          case ya0 =>
            go_simp <;> with_reducible rfl
          simp only [Act.put, List.setIfInBounds_toArray, List.set_cons_zero, List.set_cons_succ]
          refine grow_take 1 (some 27) (v := ?va1) rfl rfl (by kernel_rfl) (by kernel_rfl) (by kernel_rfl) (fun _ _ _ h => h) (by rfl) (fun W hW => ?ya1) ?_
          case ya1 =>
            go_simp <;> with_reducible rfl
          simp only [Act.put, List.setIfInBounds_toArray, List.set_cons_zero, List.set_cons_succ]
          refine grow_take 2 (some 28) (v := ?va2) rfl rfl (by kernel_rfl) (by kernel_rfl) (by kernel_rfl) (fun _ _ _ h => h) (by rfl) (fun W hW => ?ya2) ?_
          case ya2 =>
            go_simp <;> with_reducible rfl
          simp only [Act.put, List.setIfInBounds_toArray, List.set_cons_zero, List.set_cons_succ]
          refine grow_take 3 (some 29) (v := ?va3) rfl rfl (by kernel_rfl) (by kernel_rfl) (by kernel_rfl) (fun _ _ _ h => h) (by rfl) (fun W hW => ?ya3) ?_
          case ya3 =>
            have h1 := hq W
            go_simp <;> with_reducible rfl
          simp only [Act.put, List.setIfInBounds_toArray, List.set_cons_zero, List.set_cons_succ]
          refine grow_take 4 (some 30) (v := ?va4) rfl rfl (by kernel_rfl) (by kernel_rfl) (by kernel_rfl) (fun _ _ _ h => h) (by rfl) (fun W hW => ?ya4) ?_
          case ya4 =>
            go_simp <;> with_reducible rfl
          simp only [Act.put, List.setIfInBounds_toArray, List.set_cons_zero, List.set_cons_succ]
          refine grow_take 5 (some 31) (v := ?va5) rfl rfl (by kernel_rfl) (by kernel_rfl) (by kernel_rfl) (fun _ _ _ h => h) (by rfl) (fun W hW => ?ya5) ?_
          case ya5 =>
            go_simp <;> with_reducible rfl
          simp only [Act.put, List.setIfInBounds_toArray, List.set_cons_zero, List.set_cons_succ]
          refine grow_take 6 (some 32) (v := ?va6) rfl rfl (by kernel_rfl) (by kernel_rfl) (by kernel_rfl) (fun _ _ _ h => h) (by rfl) (fun W hW => ?ya6) ?_
          case ya6 =>
            have h1 := hr W
            go_simp <;> with_reducible rfl
          simp only [Act.put, List.setIfInBounds_toArray, List.set_cons_zero, List.set_cons_succ]
          refine grow_only 7 rfl (by kernel_rfl) (fun K hK => ?_)
          go_simp
          have hb1 : Below base a0 (a0.alloc (.cells #[.int .u8 92, .int .u8 (d1.toNat : Int), .int .u8 (d2.toNat : Int)] 5)) := (Below.refl _ _).alloc hs0 _
          have hone : (a0.alloc (.cells #[.int .u8 92, .int .u8 (d1.toNat : Int), .int .u8 (d2.toNat : Int)] 5)).ownsRow a0.heap.size 5 1 (.slice (some ⟨a0.heap.size, 0, none⟩) 3 3) 3 (bys [92, d1, d2]) := lit3 a0 92 d1 d2
          have hH := Has.own hone
          have hor1 := hor0.alloc (.cells #[.int .u8 92, .int .u8 (d1.toNat : Int), .int .u8 (d2.toNat : Int)] 5)
          have hba := hbr0.trans hb1
          have hs1 := Nat.le_trans hbase hba.size
          clear hone hor0 hbr0
          refine hK.out _ _ hb1 ?_
          clear hK K hb1
          try simp only [Act.put, List.setIfInBounds_toArray, List.set_cons_zero, List.set_cons_succ]
          refine grow_only 8 rfl (by kernel_rfl) (fun K hK => ?_)
          refine step8 _ (some 34) rfl rfl (.tmp 26) (.tmp 33) rfl base _ _ (p ++ o) rfl hor1 _ _ 3 3 [92, d1, d2] rfl hH (by have := hlen.out; omega) hs1 ?_
          intro v' w3 hown3 hb3 _ _
          have hb4 := hba.trans hb3
          refine hK.out _ _ hb3 ?_
          clear hK K hor1 hba hs1 hH hb3
          try simp only [Act.put, List.setIfInBounds_toArray, List.set_cons_zero, List.set_cons_succ]
          refine grow_take 9 (some 0) (v := ?va9) rfl rfl (by kernel_rfl) (by kernel_rfl) (by kernel_rfl) (fun _ _ _ h => h) (by rfl) (fun W hW => ?ya9) ?_
          case ya9 =>
            go_simp <;> with_reducible rfl
          simp only [Act.put, List.setIfInBounds_toArray, List.set_cons_zero, List.set_cons_succ]
          refine grow_done (by kernel_rfl) ?_ _
          go_wp2
          go_roundg k
          case measure => omega
          case rel => exact ⟨i + 1, o ++ [92, d1, d2], by omega, by go_num, hnext, by simpa [hap, Nat.add_assoc] using hown3, hb4⟩
        · have c2 : ¬ ((c.toNat : Int) < 32) := by omega
          have c3 : ((126 : Int) < (c.toNat : Int)) := by omega
          clear c1 hlt
          go_wp2_with fail
          refine grow_begin_at base (by kernel_rfl) ?_
          have hbr0 : Below base w wr.drew := hbr.trans ((Below.refl _ _).drew)
          have hor0 := own_below hor (Below.refl wr.heap.size wr).drew
          have hs0 := Nat.le_trans hbase hbr0.size
          clear hor hbr HB
          generalize wr.drew = a0 at *
          refine grow_take 0 (some 26) (v := ?vb0) rfl rfl (by kernel_rfl) (by kernel_rfl) (by kernel_rfl) (fun _ _ _ h => h) (by rfl) (fun W hW => ?yb0) ?_
          case yb0 =>
            go_simp <;> with_reducible rfl
          simp only [Act.put, List.setIfInBounds_toArray, List.set_cons_zero, List.set_cons_succ]
          refine grow_take 1 (some 27) (v := ?vb1) rfl rfl (by kernel_rfl) (by kernel_rfl) (by kernel_rfl) (fun _ _ _ h => h) (by rfl) (fun W hW => ?yb1) ?_
          case yb1 =>
            go_simp <;> with_reducible rfl
          simp only [Act.put, List.setIfInBounds_toArray, List.set_cons_zero, List.set_cons_succ]
          refine grow_take 2 (some 28) (v := ?vb2) rfl rfl (by kernel_rfl) (by kernel_rfl) (by kernel_rfl) (fun _ _ _ h => h) (by rfl) (fun W hW => ?yb2) ?_
          case yb2 =>
            go_simp <;> with_reducible rfl
          simp only [Act.put, List.setIfInBounds_toArray, List.set_cons_zero, List.set_cons_succ]
          refine grow_take 3 (some 29) (v := ?vb3) rfl rfl (by kernel_rfl) (by kernel_rfl) (by kernel_rfl) (fun _ _ _ h => h) (by rfl) (fun W hW => ?yb3) ?_
          case yb3 =>
            have h1 := hq W
            go_simp <;> with_reducible rfl
          simp only [Act.put, List.setIfInBounds_toArray, List.set_cons_zero, List.set_cons_succ]
          refine grow_take 4 (some 30) (v := ?vb4) rfl rfl (by kernel_rfl) (by kernel_rfl) (by kernel_rfl) (fun _ _ _ h => h) (by rfl) (fun W hW => ?yb4) ?_
          case yb4 =>
            go_simp <;> with_reducible rfl
          simp only [Act.put, List.setIfInBounds_toArray, List.set_cons_zero, List.set_cons_succ]
          refine grow_take 5 (some 31) (v := ?vb5) rfl rfl (by kernel_rfl) (by kernel_rfl) (by kernel_rfl) (fun _ _ _ h => h) (by rfl) (fun W hW => ?yb5) ?_
          case yb5 =>
            go_simp <;> with_reducible rfl
          simp only [Act.put, List.setIfInBounds_toArray, List.set_cons_zero, List.set_cons_succ]
          refine grow_take 6 (some 32) (v := ?vb6) rfl rfl (by kernel_rfl) (by kernel_rfl) (by kernel_rfl) (fun _ _ _ h => h) (by rfl) (fun W hW => ?yb6) ?_
          case yb6 =>
            have h1 := hr W
            go_simp <;> with_reducible rfl
          simp only [Act.put, List.setIfInBounds_toArray, List.set_cons_zero, List.set_cons_succ]
          refine grow_only 7 rfl (by kernel_rfl) (fun K hK => ?_)
          go_simp
          have hb1 : Below base a0 (a0.alloc (.cells #[.int .u8 92, .int .u8 (d1.toNat : Int), .int .u8 (d2.toNat : Int)] 5)) := (Below.refl _ _).alloc hs0 _
          have hone : (a0.alloc (.cells #[.int .u8 92, .int .u8 (d1.toNat : Int), .int .u8 (d2.toNat : Int)] 5)).ownsRow a0.heap.size 5 1 (.slice (some ⟨a0.heap.size, 0, none⟩) 3 3) 3 (bys [92, d1, d2]) := lit3 a0 92 d1 d2
          have hH := Has.own hone
          have hor1 := hor0.alloc (.cells #[.int .u8 92, .int .u8 (d1.toNat : Int), .int .u8 (d2.toNat : Int)] 5)
          have hba := hbr0.trans hb1
          have hs1 := Nat.le_trans hbase hba.size
          clear hone hor0 hbr0
          refine hK.out _ _ hb1 ?_
          clear hK K hb1
          try simp only [Act.put, List.setIfInBounds_toArray, List.set_cons_zero, List.set_cons_succ]
          refine grow_only 8 rfl (by kernel_rfl) (fun K hK => ?_)
          refine step8 _ (some 34) rfl rfl (.tmp 26) (.tmp 33) rfl base _ _ (p ++ o) rfl hor1 _ _ 3 3 [92, d1, d2] rfl hH (by have := hlen.out; omega) hs1 ?_
          intro v' w3 hown3 hb3 _ _
          have hb4 := hba.trans hb3
          refine hK.out _ _ hb3 ?_
          clear hK K hor1 hba hs1 hH hb3
          try simp only [Act.put, List.setIfInBounds_toArray, List.set_cons_zero, List.set_cons_succ]
          refine grow_take 9 (some 0) (v := ?vb9) rfl rfl (by kernel_rfl) (by kernel_rfl) (by kernel_rfl) (fun _ _ _ h => h) (by rfl) (fun W hW => ?yb9) ?_
          case yb9 =>
            go_simp <;> with_reducible rfl
          simp only [Act.put, List.setIfInBounds_toArray, List.set_cons_zero, List.set_cons_succ]
          refine grow_done (by kernel_rfl) ?_ _
          go_wp2
          go_roundg k
          case measure => omega
          case rel => exact ⟨i + 1, o ++ [92, d1, d2], by omega, by go_num, hnext, by simpa [hap, Nat.add_assoc] using hown3, hb4⟩

end Go.Proofs.YtihoachcpabkeaaGreatDoor
