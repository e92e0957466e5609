/-
  readValue: a value as the program reads it. By an AI agent.
-/
import Derived.Test.YtihoachcpabkeaaGreatDoorPReadA
import Derived.Test.YtihoachcpabkeaaGreatDoorPForm
namespace Go.Proofs.YtihoachcpabkeaaGreatDoor
open Go.RowKit
set_option linter.unusedVariables false

/-- One step of the program's reading. -/
inductive RqStep (l : List UInt8) : Prop where
  | blank (h : l = [32]) (rq : rqFrom false l = none)
  | stop (h : l ≠ [32]) (x : UInt8) (b : byteV l = (x, 0)) (rq : rqFrom false l = none)
  | go (h : l ≠ [32]) (x : UInt8) (k : Nat) (b : byteV l = (x, k)) (h0 : 1 ≤ k) (h1 : k ≤ l.length) (rq : rqFrom false l = (rqFrom false (l.drop k)).map (x :: ·))

theorem rq_step {l : List UInt8} (hl : l ≠ []) : RqStep l := by
  have n92 : ∀ {r : List UInt8}, (92 :: r) ≠ [(32 : UInt8)] := by intro r h; simp at h
  cases rway false l hl with
  | bad c r h h92 hb e1 e2 =>
    subst h
    unfold isBad at hb
    simp only [Bool.false_or, Bool.and_false, Bool.or_false, Bool.or_eq_true, Bool.and_eq_true, beq_iff_eq] at hb
    rcases hb with hb | ⟨rfl, hb⟩
    · refine .stop ?_ 0 (by simp [byteV, h92, hb]) e2
      rintro h
      simp only [List.cons.injEq] at h
      rw [h.1] at hb
      cases hb
    · refine .blank ?_ e2
      rw [List.isEmpty_iff.1 hb]
  | zero r h e1 e2 =>
    subst h
    exact .go (by simp) 0 1 (by simp [byteV, isSpec]) (by omega) (by simp) e2
  | one c r h h92 h0 hb e1 e2 =>
    subst h
    have hs : isSpec c = false := by unfold isBad at hb; revert hb; cases isSpec c <;> simp
    refine .go ?_ c 1 (by simp [byteV, h92, hs]) (by omega) (by simp) e2
    intro h
    simp only [List.cons.injEq] at h
    rw [h.1, h.2] at hb
    cases hb
  | stop h e1 e2 => subst h; exact .stop n92 0 (by simp [byteV, escV]) e2
  | pair d r h hd e1 e2 => subst h; exact .go n92 d 2 (by simp [byteV, escV, hd]) (by omega) (by simp) e2
  | half d h hd e1 e2 => subst h; exact .stop n92 0 (by simp [byteV, escV, hd]) e2
  | hex d f a b r h hd ha hb e1 e2 =>
    subst h
    exact .go n92 (UInt8.ofNat (16 * a + b)) 3 (by simp [byteV, escV, hd, hex2, ha, hb]) (by omega) (by simp) e2
  | nohex d f r h hd hn e1 e2 =>
    subst h
    have h2 : hex2 d f = none := by
      unfold hex2
      rcases hn with hn | hn
      · rw [hn]; rfl
      · rw [hn]; cases hexV d <;> rfl
    exact .stop n92 0 (by simp [byteV, escV, hd, h2]) e2

theorem rq_head {c : UInt8} {r : List UInt8} (h : c = 32 ∨ c = 35) : rqFrom true (c :: r) = none := by
  rcases h with rfl | rfl <;> rw [rqFrom.eq_def] <;> simp [isSpec]
theorem rq_first {l : List UInt8} (h : ∀ c r, l = c :: r → c ≠ 32 ∧ c ≠ 35) : rqFrom true l = rqFrom false l := by
  cases l with
  | nil => rfl
  | cons c r =>
    obtain ⟨h1, h2⟩ := h c r rfl
    rw [rqFrom.eq_def true, rqFrom.eq_def false]
    simp [h1, h2]

/-- What the program has read, and what is still to be read. -/
def RqAt (l o r : List UInt8) : Prop := rqFrom false l = (rqFrom false r).map (o ++ ·)
theorem RqAt.start (l : List UInt8) : RqAt l [] l := by unfold RqAt; cases rqFrom false l <;> simp
theorem RqAt.none {l o r : List UInt8} (h : RqAt l o r) (hn : rqFrom false r = none) : rqFrom false l = none := by unfold RqAt at h; rw [h, hn]; rfl
theorem RqAt.more {l o r q : List UInt8} {x : UInt8} (h : RqAt l o r) (hn : rqFrom false r = (rqFrom false q).map (x :: ·)) : RqAt l (o ++ [x]) q := by
  unfold RqAt at h ⊢
  rw [h, hn, Option.map_map]
  congr 1
  funext u
  simp
theorem RqAt.done {l o : List UInt8} (h : RqAt l o []) : rqFrom false l = some o := by unfold RqAt at h; rw [h]; simp [rqFrom]

theorem prefix_one (l : List UInt8) (c : UInt8) : Lib.hasPrefix l [c] = (match l with | [] => false | x :: _ => x == c) := by
  cases l with
  | nil => rfl
  | cons x r =>
    simp only [Lib.hasPrefix, List.isPrefixOf, Bool.and_true]
    rw [Bool.eq_iff_iff, beq_iff_eq, beq_iff_eq]
    exact eq_comm

set_option maxRecDepth 100000 in
set_option maxHeartbeats 16000000 in
theorem pread_any (s : ByteArray) (hs : s.size ≤ 1000000) (w : World) (hT : Tabs w) :
    Calls Tryz.prog 43 #[.string s] w fun e w' => e = .returned (.tuple #[.string (txt ((rqFrom true s.data.toList).getD [])), .bool (rqFrom true s.data.toList).isSome]) ∧ Below w.heap.size w w' := by
  have hL := Lib.size_eq s
  have hp1 := fun w => Tryz.strings_HasPrefix s ⟨#[32]⟩ w
  have hp2 := fun w => Tryz.strings_HasPrefix s ⟨#[35]⟩ w
  rw [show (⟨#[32]⟩ : ByteArray).data.toList = [32] from rfl] at hp1
  rw [show (⟨#[35]⟩ : ByteArray).data.toList = [35] from rfl] at hp2
  have hself : txt s.data.toList = s := (data_cell s _ rfl).symm
  generalize hl : s.data.toList = l at *
  obtain ⟨R, hR0⟩ : ∃ R, rqFrom true l = R := ⟨_, rfl⟩
  rw [hR0]
  by_cases h32 : Lib.hasPrefix l [32] = true
  · rw [h32] at hp1
    have hR : R = none := by
      rw [← hR0]
      rw [prefix_one] at h32
      cases l with
      | nil => cases h32
      | cons c r => exact rq_head (Or.inl (by simpa using h32))
    subst hR
    clear hL hp2 h32 hR0 hl hself
    go_enter Tryz.func43, Tryz.ntmps43
    go_wp2_with (go_at_call 57; refine (hp1 _).mono ?_; rintro e w' ⟨rfl, hw⟩; obtain rfl := hw.symm)
    go_ret2
    exact ⟨rfl, Below.refl _ _⟩
  · have h32 : Lib.hasPrefix l [32] = false := by simpa using h32
    rw [h32] at hp1
    by_cases h35 : Lib.hasPrefix l [35] = true
    · rw [h35] at hp2
      have hR : R = none := by
        rw [← hR0]
        rw [prefix_one] at h35
        cases l with
        | nil => cases h35
        | cons c r => exact rq_head (Or.inr (by simpa using h35))
      subst hR
      clear hL h32 h35 hR0 hl hself
      go_enter Tryz.func43, Tryz.ntmps43
      go_wp2_with (go_at_call 57; fail)
      refine (hp1 _).mono ?_
      rintro e w' ⟨rfl, hw⟩
      obtain rfl := hw.symm
      go_wp2_with (go_at_call 57; fail)
      refine (hp2 _).mono ?_
      rintro e w' ⟨rfl, hw⟩
      obtain rfl := hw.symm
      go_wp2
      go_ret2
      exact ⟨rfl, Below.refl _ _⟩
    · have h35 : Lib.hasPrefix l [35] = false := by simpa using h35
      rw [h35] at hp2
      have hRf : Hid (rqFrom false l = R) := hide (by
        rw [← hR0]
        refine (rq_first fun c r h => ?_).symm
        subst h
        rw [prefix_one] at h32 h35
        simp only [beq_eq_false_iff_ne] at h32 h35
        exact ⟨h32, h35⟩)
      have hst : Hid (RqAt l [] l) := hide (RqAt.start l)
      have hll : l.length ≤ 1000000 := by omega
      have hsl : Hid (s = txt l) := hide hself.symm
      obtain ⟨w1, hmake, hown, hb⟩ := make8 w s.size (by omega)
      clear h32 h35 hR0 hself
      replace hl := hide hl
      have hln := hide hL
      clear hL
      go_enter Tryz.func43, Tryz.ntmps43
      go_wp2_with (go_at_call 57; fail)
      refine (hp1 _).mono ?_
      rintro e w' ⟨rfl, hw⟩
      obtain rfl := hw.symm
      go_wp2_with (go_at_call 57; fail)
      refine (hp2 _).mono ?_
      rintro e w' ⟨rfl, hw⟩
      obtain rfl := hw.symm
      clear hp1 hp2
      go_wp2
      go_loopg [4, 5] l.length (fun k s4 s5 wx => ∃ (q : ByteArray) (o : List UInt8), q.size = k ∧ s5 = .string q ∧ o.length + k ≤ l.length ∧ Hid (RqAt l o q.data.toList) ∧ wx.ownsRow w.heap.size 5 1 s4 o.length (bys o) ∧ Below w.heap.size w wx)
      case atStart =>
        refine ⟨s, [], hln.out, rfl, by simp, ?_, hown, hb⟩
        rw [hsl.out, txt_toList]
        exact hst
      case round =>
        obtain ⟨q, o, hq, rfl, hol, hC, hor, hbr⟩ := hrel
        clear hmake hown hb hst hsl hl hln
        have hqs := Lib.size_eq q
        cases gk with
        | zero =>
          have hq0 : q.data.toList = [] := List.eq_nil_of_length_eq_zero (by omega)
          have hqe : q.toList.isEmpty = true := by rw [Lib.toList_data, hq0]; rfl
          have hRo : Hid (R = some o) := hide (by
            have := hC.out
            rw [hq0] at this
            rw [← hRf.out]
            exact this.done)
          obtain ⟨A, c, rfl, hnc, hHas⟩ := own_form hor
          have htx := txt8 wr c hHas
          clear hHas hor hC hq0 hqs hq hRf
          go_wp2
          go_ret2
          exact ⟨by rw [hRo.out]; rfl, hbr⟩
        | succ k =>
          have hqn : q.data.toList ≠ [] := fun h => by rw [h] at hqs; simp only [List.length_nil] at hqs; omega
          have hqe : q.toList.isEmpty = false := by rw [Lib.toList_data]; simpa using hqn
          have hS := rq_step hqn
          have hB := fun w hT => byte_any q (by omega) (by omega) w hT
          have hTr := hT.below hbr
          have hol2 := hide hol
          clear hol
          cases hS with
          | blank h rq =>
            have hRo : Hid (R = none) := hide (by rw [← hRf.out]; exact hC.out.none rq)
            have hqb : (q.toList == [32]) = true := by rw [Lib.toList_data, h]; rfl
            clear hB hC h rq hqn hqs hq hRf hor
            go_wp2
            go_ret2
            exact ⟨by rw [hRo.out]; rfl, hbr⟩
          | stop h x b rq =>
            have hRo : Hid (R = none) := hide (by rw [← hRf.out]; exact hC.out.none rq)
            have hqb : (q.toList == [32]) = false := by rw [Lib.toList_data]; simpa using h
            rw [b] at hB
            simp only at hB
            clear hC h rq hqn hqs hq hRf b hor
            go_wp2_with (go_at_call 58; fail)
            refine (hB _ hTr).mono ?_
            rintro e w2 ⟨rfl, hb2⟩
            go_wp2
            go_ret2
            exact ⟨by rw [hRo.out]; rfl, hbr.trans (hb2.mono hbr.size)⟩
          | go h x j b h0 h1 rq =>
            have hqb : (q.toList == [32]) = false := by rw [Lib.toList_data]; simpa using h
            have hj : j ≤ q.size := by omega
            have hjz : (j : Int) ≤ (q.size : Int) := by omega
            have hj0 : ((j : Int) == 0) = false := beq_false_of_ne (by omega)
            obtain ⟨X, hX⟩ : ∃ X, q.extract j (k + 1) = X := ⟨_, rfl⟩
            have hXd : X.data.toList = q.data.toList.drop j := by
              rw [← hX, ← hq, Lib.extract_data, List.take_of_length_le]
              rw [List.length_drop]; omega
            have hXs : X.size = q.size - j := by rw [Lib.size_eq, hXd, List.length_drop, ← hqs]
            have hnext : Hid (RqAt l (o ++ [x]) X.data.toList) := hide (by rw [hXd]; exact hC.out.more rq)
            rw [b] at hB
            simp only at hB
            clear hC h rq hqn hqs hRf b hXd
            go_wp2_with (go_at_call 58; fail)
            refine (hB _ hTr).mono ?_
            rintro e w2 ⟨rfl, hb2⟩
            have hbr2 := hbr.trans (hb2.mono hbr.size)
            have hor2 := own_below hor hb2
            clear hor hbr hb2 hB hTr
            have hone : (w2.alloc (.cells #[.int .u8 (x.toNat : Int)] 5)).ownsRow w2.heap.size 5 1 (.slice (some ⟨w2.heap.size, 0, none⟩) 1 1) 1 (bys [x]) := one8 w2 x
            have hH := Has.own hone
            have hor1 := hor2.alloc (.cells #[.int .u8 (x.toNat : Int)] 5)
            have hbr1 := hbr2.alloc hbr2.size (.cells #[.int .u8 (x.toNat : Int)] 5)
            have hs1 := hbr1.size
            clear hone hor2 hbr2
            go_wp2_with (at_builtin; go_must (refine app8 _ rfl (.tmp 29) (.tmp 31) rfl w.heap.size _ _ o rfl hor1 _ _ 1 1 [x] rfl hH (by have := hol2.out; omega) hs1 ?_))
            intro v' w3 hown3 hb3 _
            have hb4 := hbr1.trans hb3
            clear hor1 hbr1 hs1 hH hb3
            go_wp2
            go_roundg (k + 1 - j)
            case measure => omega
            case rel => exact ⟨X, o ++ [x], by omega, rfl, by simp only [List.length_append, List.length_singleton]; have := hol2.out; omega, hnext, by simpa using hown3, hb4⟩

end Go.Proofs.YtihoachcpabkeaaGreatDoor
