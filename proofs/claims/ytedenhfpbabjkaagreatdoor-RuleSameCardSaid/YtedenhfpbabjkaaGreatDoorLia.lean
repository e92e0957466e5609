/-
  strings.LastIndexAny(s, "+-"): for any s a place within s, or -1; and of a text of ASCII the last sign's place. By an AI agent.
-/
import Derived.Test.YtedenhfpbabjkaaGreatDoorIdx
import Derived.Lib.TrimAscii
import Derived.Lib.TrimU
import Derived.Deep.LoopGhost
import Derived.Deep.WholeRow
namespace Go.Proofs.YtedenhfpbabjkaaGreatDoor
open Go.RowKit

theorem idx_any (r : Nat) (h1 : r ≤ 1114111) (w : World) :
    Calls Tryz.prog 91 #[.string ⟨#[43, 45]⟩, .int .i32 (r : Int)] w fun e w' => e = .returned (.int .i64 (sgnAt r)) ∧ Below w.heap.size w w' := by
  by_cases h : r < 128
  · exact idx_ascii r (by omega) (by omega) w
  · have : sgnAt (r : Int) = -1 := by unfold sgnAt; rw [if_neg (by omega), if_neg (by omega)]
    rw [this]
    exact idx_high r (by omega) (by omega) w

/-- No sign from place i on. -/
def NoFrom (l : List UInt8) (i : Nat) : Prop := ∀ (j : Nat) x, i ≤ j → l[j]? = some x → x ≠ 43 ∧ x ≠ 45
def Ascii (l : List UInt8) : Prop := ∀ (j : Nat) x, l[j]? = some x → x.toNat < 128
/-- v is the last sign's place, or -1. -/
def LastOf (l : List UInt8) (v : Int) : Prop := (v = -1 ∧ NoFrom l 0) ∨ ∃ (i : Nat) (x : UInt8), v = i ∧ l[i]? = some x ∧ (x = 43 ∨ x = 45) ∧ NoFrom l (i + 1)

structure LiaPost (s : ByteArray) (w : World) (e : Ending) (w' : World) : Prop where
  out : ∃ v : Int, e = .returned (.int .i64 v) ∧ -1 ≤ v ∧ (v ≤ 0 ∨ v < s.size) ∧ (Ascii s.data.toList → LastOf s.data.toList v) ∧ Below w.heap.size w w'

theorem NoFrom.end (l : List UInt8) : NoFrom l l.length := fun j x hj hx => by
  rw [List.getElem?_eq_none hj] at hx; cases hx

theorem NoFrom.pred {l : List UInt8} {i : Nat} (h : NoFrom l (i + 1)) {x : UInt8} (hx : l[i]? = some x) (hn : x ≠ 43 ∧ x ≠ 45) : NoFrom l i := fun j y hj hy => by
  rcases Nat.eq_or_lt_of_le hj with rfl | hlt
  · rw [hx] at hy; cases hy; exact hn
  · exact h j y hlt hy

theorem take_succ_of {l : List UInt8} {i : Nat} {x : UInt8} (hx : l[i]? = some x) : l.take (i + 1) = l.take i ++ [x] := by
  rw [List.take_add_one, hx]; rfl

theorem sgnAt_byte (x : UInt8) : (0 ≤ sgnAt (x.toNat : Int)) ↔ (x = 43 ∨ x = 45) := by
  unfold sgnAt
  constructor
  · intro h
    by_cases h1 : (x.toNat : Int) = 43
    · left; exact UInt8.toNat_inj.1 (by simp; omega)
    · by_cases h2 : (x.toNat : Int) = 45
      · right; exact UInt8.toNat_inj.1 (by simp; omega)
      · rw [if_neg h1, if_neg h2] at h; omega
  · rintro (rfl | rfl)
    · decide
    · decide

set_option maxRecDepth 1000000 in
set_option maxHeartbeats 800000 in
theorem lia_one (s : ByteArray) (h1 : s.size = 1) (w : World) :
    Calls Tryz.prog 62 #[.string s, .string ⟨#[43, 45]⟩] w (LiaPost s w) := by
  obtain ⟨x, hx⟩ : ∃ x : UInt8, s[0]'(by omega) = x := ⟨_, rfl⟩
  have hxl : s.data.toList[0]? = some x := by rw [← hx]; exact Lib.data_getElem? s 0 (by omega)
  have hlen : s.data.toList.length = 1 := by rw [← Lib.size_eq]; exact h1
  have hw : wrap32 (x.toNat : Int) = (x.toNat : Int) := by have := UInt8.toNat_lt x; unfold wrap32; omega
  have hr : ((128 : Int) ≤ (x.toNat : Int)) ∨ ¬ ((128 : Int) ≤ (x.toNat : Int)) := by omega
  have Hx := hide hxl
  clear hxl
  have hs1 : (s.size : Int) = 1 := by omega
  have ca := fun w => idx_any x.toNat (by have := UInt8.toNat_lt x; omega) w
  have hsg := sgnAt_byte x
  generalize hv : sgnAt (x.toNat : Int) = v at ca hsg
  clear hlen
  replace hsg := hide hsg
  replace hv := hide hv
  replace hr := hr
  rcases hr with hr | hr
  · go_enter Tryz.func62, Tryz.ntmps62
    go_wp2_with (go_at_call 91; refine (idx_bad _).mono ?_; rintro e w' ⟨rfl, hb⟩)
    go_ret
    refine ⟨-1, rfl, by omega, by omega, fun ha => ?_, hb⟩
    have := ha 0 x Hx.out
    omega
  · go_enter Tryz.func62, Tryz.ntmps62
    go_wp2_with (go_at_call 91; refine (ca _).mono ?_; rintro e w' ⟨rfl, hb⟩)
    · go_ret
      refine ⟨0, rfl, by omega, by omega, fun ha => Or.inr ⟨0, x, rfl, Hx.out, hsg.out.1 (by assumption), ?_⟩, hb⟩
      intro j y hj hy
      rw [List.getElem?_eq_none (by rw [← Lib.size_eq]; omega)] at hy; cases hy
    · have hneg : ¬ 0 ≤ v := by omega
      go_ret
      refine ⟨-1, rfl, by omega, by omega, fun ha => Or.inl ⟨rfl, ?_⟩, hb⟩
      have hn : x ≠ 43 ∧ x ≠ 45 := ⟨fun h => hneg (hsg.out.2 (Or.inl h)), fun h => hneg (hsg.out.2 (Or.inr h))⟩
      refine NoFrom.pred (fun j y hj hy => ?_) Hx.out hn
      rw [List.getElem?_eq_none (by rw [← Lib.size_eq]; omega)] at hy; cases hy

theorem sets91 : (Tryz.prog.info? 89).map (fun i => (i.zero, i.size)) = some (some (.agg (Array.replicate 256 (.bool false))), 256) := by kernel_rfl

set_option maxRecDepth 100000 in
theorem set_any (n : Int) (w : World) : Calls Tryz.prog 92 #[.int .i64 n] w fun e w' => e = .returned (.bool (decide (8 < n))) ∧ w' = w := by
  go_enter Tryz.func92, Tryz.ntmps92
  go_wp2
  go_ret
  exact ⟨rfl, rfl⟩

theorem sgn_in (x : UInt8) : ([43, 45] : List UInt8).contains x = true ↔ (x = 43 ∨ x = 45) := by
  simp

set_option maxRecDepth 1000000 in
set_option maxHeartbeats 8000000 in
theorem lia_long (s : ByteArray) (h8 : 8 < s.size) (hs : s.size ≤ 9000000000000000000) (w : World) :
    Calls Tryz.prog 62 #[.string s, .string ⟨#[43, 45]⟩] w (LiaPost s w) := by
  have hM := Tryz.strings_makeASCIISet (zero_of_info sets91).1 ⟨#[43, 45]⟩ w (by decide) (fun j b hb => by
    have h2 : ∀ y ∈ ([43, 45] : List UInt8), y.toNat < 128 := by decide
    exact h2 b (List.mem_of_getElem? hb))
  have hn1 : ((s.size : Int) == 1) = false := beq_eq_false_iff_ne.2 (by omega)
  have h8z : decide ((8 : Int) < (s.size : Int)) = true := decide_eq_true (by omega)
  have hl : s.data.toList.length = s.size := (Lib.size_eq s).symm
  have hsz := Lib.setCells_size [43, 45]
  have hsc : (storeCells ⟨w.heap.size + 1, 0, none⟩ (Lib.setCells [43, 45]).toList 0).run Tryz.prog ((w.alloc (.cells (Lib.setCells [43, 45]) 89)).alloc (.cells (Array.replicate 256 (.bool false)) 89)) = .ok () ((w.alloc (.cells (Lib.setCells [43, 45]) 89)).alloc (.cells (Lib.setCells [43, 45]) 89)) := by
    have := run_storeCells_new (P := Tryz.prog) (w.alloc (.cells (Lib.setCells [43, 45]) 89)) 89 (Array.replicate 256 (.bool false)) (Lib.setCells [43, 45]) (by rw [Lib.setCells_size]; exact (zero_of_info sets91).2) (by rw [Lib.setCells_size, Array.size_replicate]) (Lib.setCells_one _)
    simpa using this
  have hcellAt : ∀ x : UInt8, ((w.alloc (.cells (Lib.setCells [43, 45]) 89)).alloc (.cells (Lib.setCells [43, 45]) 89)).cell? ⟨w.heap.size + 1, x.toNat, none⟩ = some (.bool (([43, 45] : List UInt8).contains x)) := fun x => by
    rw [World.cell?_alloc_at _ _ _ _ (by simp), Lib.setCells_at]
  have hbel : Below w.heap.size w ((w.alloc (.cells (Lib.setCells [43, 45]) 89)).alloc (.cells (Lib.setCells [43, 45]) 89)) := ((Below.refl _ _).alloc (Nat.le_refl _) _).alloc (by simp) _
  have e1 : (ByteArray.mk #[43, 45]).data.toList = ([43, 45] : List UInt8) := rfl
  rw [e1] at hM
  generalize Lib.setCells [43, 45] = C at hM hsz hsc hcellAt hbel
  have HC := hide hcellAt
  clear hcellAt
  replace hbel := hide hbel
  go_enter Tryz.func62, Tryz.ntmps62
  go_wp2_with (first
    | (go_at_call 92; refine (set_any _ _).mono ?_; rintro e w' ⟨rfl, hw⟩; rw [hw, h8z])
    | (go_at_call 73; refine hM.mono ?_; rintro e w' ⟨rfl, hw⟩; rw [hw]))
  have hz : Tryz.zeroCells89 = Array.replicate 256 (.bool false) := by kernel_rfl
  rw [hz, hsc]
  simp only [Result.andThen]
  rw [Oper.upon_skip]
  go_wp2
  clear hM hsc hz
  go_loopg [8] s.size (fun g s8 wx => g ≤ s.size ∧ s8 = .int .i64 ((g : Int) - 1) ∧ wx = ((w.alloc (.cells C 89)).alloc (.cells C 89)) ∧ Hid (NoFrom s.data.toList g))
  case atStart => exact ⟨Nat.le_refl _, by go_num, rfl, hide (by rw [← hl]; exact NoFrom.end _)⟩
  case round =>
    obtain ⟨hgs, rfl, rfl, hno⟩ := hrel
    cases gk with
    | zero =>
      have hiz : ¬ ((0 : Int) ≤ ((0 : Nat) : Int) - 1) := by omega
      go_wp2
      go_ret
      exact ⟨-1, rfl, by omega, by omega, fun _ => Or.inl ⟨rfl, hno.out⟩, hbel.out⟩
    | succ g =>
      have hi : g < s.size := by omega
      have hgi : (((g + 1 : Nat) : Int) - 1) = (g : Int) := by omega
      rw [hgi]
      have hiz : (0 : Int) ≤ (g : Int) := by omega
      have hiz2 : (g : Int) < (s.size : Int) := by omega
      obtain ⟨x, hx⟩ : ∃ x : UInt8, s[g]'hi = x := ⟨_, rfl⟩
      have hxl : s.data.toList[g]? = some x := by rw [← hx]; exact Lib.data_getElem? s g hi
      have Hx := hide hxl
      clear hxl
      have hcx := HC.out x
      cases hin : ([43, 45] : List UInt8).contains x <;> rw [hin] at hcx
      · replace hin := hide hin
        go_wp2_with (go_at_call 93; refine (Tryz.asciiSet_contains _ x _ _ hcx).mono ?_; rintro e w' ⟨rfl, hw⟩; rw [hw])
        go_roundg g
        case measure => omega
        case rel =>
          refine ⟨by omega, by go_num, rfl, hide (NoFrom.pred hno.out Hx.out ?_)⟩
          have h1 : ¬ (x = 43 ∨ x = 45) := fun h => by have := (sgn_in x).2 h; rw [hin.out] at this; cases this
          exact ⟨fun h => h1 (Or.inl h), fun h => h1 (Or.inr h)⟩
      · replace hin := hide hin
        go_wp2_with (go_at_call 93; refine (Tryz.asciiSet_contains _ x _ _ hcx).mono ?_; rintro e w' ⟨rfl, hw⟩; rw [hw])
        go_ret
        exact ⟨g, rfl, by omega, by omega, fun _ => Or.inr ⟨g, x, rfl, Hx.out, (sgn_in x).1 hin.out, hno.out⟩, hbel.out⟩

theorem take_bytes (s : ByteArray) (i : Nat) : (s.extract 0 i).data.toList = s.data.toList.take i := by
  simp [ByteArray.data_extract]

theorem dec_ascii {l : List UInt8} {i : Nat} {x : UInt8} (hx : l[i]? = some x) (ha : x.toNat < 128) : Lib.decodeLastL (l.take (i + 1)) = (x.toNat, 1) := by
  rw [take_succ_of hx]; exact Lib.decodeLastL_ascii _ x ha

/-- What one round of the loop learns. -/
structure DecAt (l : List UInt8) (i r z : Nat) : Prop where
  lo : 1 ≤ z
  hi : z ≤ i
  ru : r ≤ 1114111
  hit : 0 ≤ sgnAt (r : Int) → Ascii l → NoFrom l i → LastOf l ((i : Int) - z)
  miss : ¬ 0 ≤ sgnAt (r : Int) → Ascii l → NoFrom l i → NoFrom l (i - z)

theorem dec_at {l : List UInt8} {i : Nat} (h0 : 0 < i) (hi : i ≤ l.length) : DecAt l i (Lib.decodeLastL (l.take i)).1 (Lib.decodeLastL (l.take i)).2 := by
  have hlen : (l.take i).length = i := by rw [List.length_take]; omega
  have hw := Lib.decodeLastL_width (l.take i) (by omega)
  rw [hlen] at hw
  obtain ⟨k, rfl⟩ : ∃ k, i = k + 1 := ⟨i - 1, by omega⟩
  have hk : k < l.length := by omega
  have hx : l[k]? = some l[k] := List.getElem?_eq_getElem hk
  refine ⟨hw.1, hw.2, Lib.decodeLastL_rune _, fun h ha hn => ?_, fun h ha hn => ?_⟩
  · have hd := dec_ascii hx (ha k _ hx)
    rw [hd] at h ⊢
    refine Or.inr ⟨k, l[k], by omega, hx, (sgnAt_byte _).1 h, hn⟩
  · have hd := dec_ascii hx (ha k _ hx)
    rw [hd] at h ⊢
    have h1 : ¬ (l[k] = 43 ∨ l[k] = 45) := fun h2 => h ((sgnAt_byte _).2 h2)
    exact NoFrom.pred hn hx ⟨fun h => h1 (Or.inl h), fun h => h1 (Or.inr h)⟩

set_option maxRecDepth 1000000 in
set_option maxHeartbeats 8000000 in
theorem lia_short (s : ByteArray) (h8 : ¬ 8 < s.size) (h1 : s.size ≠ 1) (w : World) (hT : Tabs w) :
    Calls Tryz.prog 62 #[.string s, .string ⟨#[43, 45]⟩] w (LiaPost s w) := by
  have hn1 : ((s.size : Int) == 1) = false := beq_eq_false_iff_ne.2 (by omega)
  have h8z : decide ((8 : Int) < (s.size : Int)) = false := decide_eq_false (by omega)
  have hl : s.data.toList.length = s.size := (Lib.size_eq s).symm
  go_enter Tryz.func62, Tryz.ntmps62
  go_wp2_with (go_at_call 92; refine (set_any _ _).mono ?_; rintro e w' ⟨rfl, hw⟩; rw [hw, h8z])
  go_loopg [13] s.size (fun g s13 wx => ∃ i : Nat, i ≤ g ∧ i ≤ s.size ∧ s13 = .int .i64 (i : Int) ∧ Below w.heap.size w wx ∧ Hid (Ascii s.data.toList → NoFrom s.data.toList i))
  case atStart => exact ⟨s.size, Nat.le_refl _, Nat.le_refl _, rfl, Below.refl _ _, hide (fun _ => by rw [← hl]; exact NoFrom.end _)⟩
  case round =>
    obtain ⟨i, hig, his, rfl, hbw, hno⟩ := hrel
    by_cases h0 : 0 < i
    · have hd := dec_at (l := s.data.toList) h0 (by omega)
      have hdc := fun w hT => Tryz.utf8_DecodeLastRuneInString (s.extract 0 i) w (by simp [ByteArray.size_extract]; omega) hT
      rw [take_bytes] at hdc
      generalize Lib.decodeLastL (s.data.toList.take i) = q at hd hdc
      obtain ⟨r, z⟩ := q
      dsimp only at hd hdc
      have hT2 := hT.below hbw
      have ci := fun w => idx_any r hd.ru w
      have hz1 := hd.lo
      have hz2 := hd.hi
      have HD := hide hd
      clear hd
      generalize hv : sgnAt (r : Int) = v at ci
      replace hv := hide hv
      have hi0 : (0 : Int) < (i : Int) := by omega
      have hi1 : (i : Int) ≤ (s.size : Int) := by omega
      have hi2 : ((i : Nat) : Int).toNat = i := by omega
      go_wp2_with (first
        | (go_at_call 94; refine (hdc _ hT2.utf).mono ?_; rintro e w1 ⟨rfl, hb1⟩)
        | (go_at_call 91; refine (ci _).mono ?_; rintro e w2 ⟨rfl, hb2⟩))
      · go_ret
        have hvs : 0 ≤ sgnAt (r : Int) := by rw [hv.out]; assumption
        have hbb := hbw.trans (hb1.mono hbw.size)
        exact ⟨(i : Int) - z, rfl, by omega, by omega, fun ha => HD.out.hit hvs ha (hno.out ha), hbb.trans (hb2.mono hbb.size)⟩
      · have hvn : v < 0 := by assumption
        obtain ⟨g, rfl⟩ : ∃ g, gk = g + 1 := ⟨gk - 1, by omega⟩
        go_roundg g
        case measure => omega
        case rel =>
          have hbb := hbw.trans (hb1.mono hbw.size)
          refine ⟨i - z, by omega, by omega, by rw [Int.ofNat_sub hz2], hbb.trans (hb2.mono hbb.size), hide (fun ha => HD.out.miss ?_ ha (hno.out ha))⟩
          rw [hv.out]; omega
    · obtain rfl : i = 0 := by omega
      have hiz : ¬ ((0 : Int) < ((0 : Nat) : Int)) := by omega
      go_wp2
      go_ret
      exact ⟨-1, rfl, by omega, by omega, fun ha => Or.inl ⟨rfl, hno.out ha⟩, hbw⟩

theorem lia_any (s : ByteArray) (hs : s.size ≤ 9000000000000000000) (w : World) (hT : Tabs w) :
    Calls Tryz.prog 62 #[.string s, .string ⟨#[43, 45]⟩] w (LiaPost s w) := by
  by_cases h1 : s.size = 1
  · exact lia_one s h1 w
  · by_cases h8 : 8 < s.size
    · exact lia_long s h8 hs w
    · exact lia_short s h8 h1 w hT

end Go.Proofs.YtedenhfpbabjkaaGreatDoor
