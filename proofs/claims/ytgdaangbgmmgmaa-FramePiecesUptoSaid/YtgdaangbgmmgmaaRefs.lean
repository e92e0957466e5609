/-
  The contracts of the document's own functions of layer 1 (a length, a field, a head, two lists alike), for the layers above; and of appends onto lists of slices. No statement is proved here.
-/
import Derived.Test.YtgdaangbgmmgmaaSeat
import Derived.BigQuiet
namespace Go.Proofs.Ytgdaangbgmmgmaa.Ber
open Go.RowKit

/-- The lowest k bytes of N, the highest first. -/
def be (k N : Nat) : List UInt8 := (List.range k).map fun i => UInt8.ofNat (N / 2 ^ (8 * (k - 1 - i)))

theorem be_length (k N : Nat) : (be k N).length = k := by simp [be]

theorem be_get (k N i : Nat) (h : i < k) : (be k N)[i]? = some (UInt8.ofNat (N / 2 ^ (8 * (k - 1 - i)))) := by
  simp [be, List.getElem?_range h]

/-- How many bytes a length takes that one byte can't hold. -/
def wide (n : Nat) : Nat := if n < 256 then 1 else if n < 65536 then 2 else if n < 16777216 then 3 else 4

/-- The shortest length of n. -/
def lenOf (n : Int) : List UInt8 :=
  if n < 0 ∨ 2147483647 < n then [] else if n < 128 then [UInt8.ofNat n.toNat] else UInt8.ofNat (128 + wide n.toNat) :: be (wide n.toNat) n.toNat

theorem wide_le (n : Nat) : 1 ≤ wide n ∧ wide n ≤ 4 := by unfold wide; split <;> (try split) <;> (try split) <;> omega

theorem wide_more (n k : Nat) (hn : n < 2147483648) (h1 : 1 ≤ k) (hk : k < wide n) : n / 2 ^ (8 * k) ≠ 0 := by
  intro h
  rw [Nat.div_eq_zero_iff] at h
  have hp : 0 < 2 ^ (8 * k) := Nat.two_pow_pos _
  have hlt : n < 2 ^ (8 * k) := by omega
  have hw := wide_le n
  have hc : k = 1 ∨ k = 2 ∨ k = 3 := by omega
  unfold wide at hk
  rcases hc with rfl | rfl | rfl <;> simp at hlt <;> split at hk <;> (try split at hk) <;> (try split at hk) <;> omega

theorem wide_done (n : Nat) (hn : n < 2147483648) : n / 2 ^ (8 * wide n) = 0 := by
  rw [Nat.div_eq_zero_iff]
  right
  unfold wide
  split
  · omega
  · split
    · omega
    · split <;> omega

/-- How many bytes an integer takes. -/
def isize (n : Int) : Nat :=
  if -128 ≤ n ∧ n < 128 then 1 else if -32768 ≤ n ∧ n < 32768 then 2 else if -8388608 ≤ n ∧ n < 8388608 then 3 else
  if -2147483648 ≤ n ∧ n < 2147483648 then 4 else if -549755813888 ≤ n ∧ n < 549755813888 then 5 else
  if -140737488355328 ≤ n ∧ n < 140737488355328 then 6 else if -36028797018963968 ≤ n ∧ n < 36028797018963968 then 7 else 8

/-- An integer's content. -/
def intOfs (n : Int) : List UInt8 := be (isize n) (IntKind.u64.wrap n).toNat

theorem isize_le (n : Int) : 1 ≤ isize n ∧ isize n ≤ 8 := by
  unfold isize
  repeat' split
  all_goals omega

theorem isize_more (n : Int) (k : Nat) (h0 : -9223372036854775808 ≤ n) (h1 : n ≤ 9223372036854775807) (hk1 : 1 ≤ k) (hk : k < isize n) : n / 2 ^ (8 * k - 1) ≠ n / 9223372036854775808 := by
  have hle := isize_le n
  have hc : k = 1 ∨ k = 2 ∨ k = 3 ∨ k = 4 ∨ k = 5 ∨ k = 6 ∨ k = 7 := by omega
  unfold isize at hk
  rcases hc with rfl | rfl | rfl | rfl | rfl | rfl | rfl <;> simp only [Nat.reduceMul, Nat.reduceSub, Int.reducePow] <;>
    (repeat' (split at hk)) <;> omega

theorem isize_done (n : Int) (h0 : -9223372036854775808 ≤ n) (h1 : n ≤ 9223372036854775807) : n / 2 ^ (8 * isize n - 1) = n / 9223372036854775808 := by
  unfold isize
  repeat' split
  all_goals simp only [Nat.reduceMul, Nat.reduceSub, Int.reducePow] <;> omega

theorem isize_low (n : Int) (k : Nat) (hk1 : 1 ≤ k) (hk : k < isize n) : n / 2 ^ (8 * k - 1) ≠ 0 ∧ n / 2 ^ (8 * k - 1) ≠ -1 := by
  have hle := isize_le n
  have hc : k = 1 ∨ k = 2 ∨ k = 3 ∨ k = 4 ∨ k = 5 ∨ k = 6 ∨ k = 7 := by omega
  unfold isize at hk
  rcases hc with rfl | rfl | rfl | rfl | rfl | rfl | rfl <;> simp only [Nat.reduceMul, Nat.reduceSub, Int.reducePow] <;>
    (repeat' (split at hk)) <;> omega

theorem isize_end (n : Int) (h : isize n < 8) : n / 2 ^ (8 * isize n - 1) = 0 ∨ n / 2 ^ (8 * isize n - 1) = -1 := by
  unfold isize at h ⊢
  repeat' split
  all_goals simp only [Nat.reduceMul, Nat.reduceSub, Int.reducePow] <;> simp_all <;> omega

/-- One store of a loop that fills a row, byte by byte. -/
theorem filled (l : List UInt8) (n k : Nat) (b : UInt8) (z : Value) (hl : l.length = n) (hk : k < n) (hb : l[k]? = some b) :
    (bys (l.take k) ++ List.replicate (n - k) z).set k (c8 b) = bys (l.take (k + 1)) ++ List.replicate (n - (k + 1)) z := by
  have h1 : (bys (l.take k)).length = k := by simp [bys]; omega
  rw [List.set_append_right _ _ (by omega), h1, Nat.sub_self, show n - k = (n - (k + 1)) + 1 by omega, List.replicate_succ, List.set_cons_zero]
  rw [show l.take (k + 1) = l.take k ++ [b] by rw [List.take_add_one, hb]; rfl]
  simp [bys]

theorem filled_at (l : List UInt8) (n k : Nat) (z : Value) (hl : l.length = n) (hk : k < n) :
    (bys (l.take k) ++ List.replicate (n - k) z)[k]? = some z := by
  have h1 : (bys (l.take k)).length = k := by simp [bys]; omega
  rw [List.getElem?_append_right (by omega), h1, Nat.sub_self]
  simp [show 0 < n - k by omega]

set_option maxRecDepth 100000 in
set_option maxHeartbeats 400000 in
theorem rlen_none (n : Int) (w : World) (h : n < 0 ∨ 2147483647 < n) :
    Calls Try.prog 20 #[.int .i64 n] w fun e w' => e = .returned (.slice none 0 0) ∧ w = w' := by
  by_cases h0 : n < 0
  · go_enter Try.func20, Try.ntmps20
    go_wp2
    go_ret
    exact ⟨rfl, rfl⟩
  · have h1 : 2147483647 < n := by omega
    go_enter Try.func20, Try.ntmps20
    go_wp2
    go_ret
    exact ⟨rfl, rfl⟩

set_option maxRecDepth 100000 in
set_option maxHeartbeats 400000 in
theorem rlen_small (n : Int) (w : World) (h0 : 0 ≤ n) (h1 : n < 128) :
    Calls Try.prog 20 #[.int .i64 n] w fun e w' => e = .returned (.slice (some ⟨w.heap.size, 0, none⟩) 1 1) ∧ w.alloc (.cells #[.int .u8 n] 5) = w' := by
  go_enter Try.func20, Try.ntmps20
  go_wp2
  go_ret
  exact ⟨rfl, rfl⟩

theorem be_more (l : List UInt8) (h : UInt8) (j : Nat) (b : UInt8) (hb : l[j]? = some b) : bys (h :: l.take j) ++ [c8 b] = bys (h :: l.take (j + 1)) := by
  rw [show l.take (j + 1) = l.take j ++ [b] by rw [List.take_add_one, hb]; rfl]
  simp [bys]

set_option maxRecDepth 100000 in
set_option maxHeartbeats 400000 in
theorem rlen_wide_of (N W : Nat) (h : UInt8) (w : World) (h0 : 128 ≤ N) (h1 : N ≤ 2147483647) (hw1 : 1 ≤ W) (hw4 : W ≤ 4)
    (Hm : Hid (∀ k : Nat, 1 ≤ k → k < W → 0 < (N : Int) / 2 ^ (8 * k))) (Hd : Hid (¬ 0 < (N : Int) / 2 ^ (8 * W))) (Hh : Hid (c8 h = .int .u8 (128 + (W : Int)))) :
    Calls Try.prog 20 #[.int .i64 N] w fun e w' =>
      ∃ v, e = .returned v ∧ w'.ownsRow w.heap.size 5 1 v (1 + W) (bys (h :: be W N)) ∧ Below w.heap.size w w' := by
  obtain ⟨i0, hi, hz0, hz1, hz2⟩ := info_parts info8
  go_enter Try.func20, Try.ntmps20
  go_wp2
  go_loop [3] (fun s => ∃ k : Nat, 1 ≤ k ∧ k ≤ W ∧ s = .int .i64 k) (fun s => W - (intOf s).toNat)
  case atStart => exact ⟨1, Nat.le_refl _, hw1, rfl⟩
  case round =>
    obtain ⟨k, hk1, hk, rfl⟩ := hrel
    by_cases hlt : k < W
    · have hd := Hm.out k hk1 hlt
      go_wp2
      go_round
      case rel => exact ⟨k + 1, by omega, by omega, by go_num⟩
      case measure => simp [intOf]; omega
    · obtain rfl : k = W := by omega
      have hd := Hd.out
      have hown1 := own_lit w #[.int .u8 (128 + (k : Int))] 5 1 (by unfold maxLen; omega) rfl
      have E := hide (show bys [h] = [.int .u8 (128 + (k : Int))] by rw [← Hh.out]; rfl)
      have hb1 : Below w.heap.size w (w.alloc (.cells #[.int .u8 (128 + (k : Int))] 5)) := (Below.refl _ _).alloc (Nat.le_refl _) _
      by_cases h4 : k < 4
      all_goals
        clear Hd Hm
        go_wp2
        go_loopw [4, 5] (fun v i wr => ∃ j : Nat, j ≤ k ∧ i = .int .i64 ((k : Int) - 1 - j) ∧ wr.ownsRow w.heap.size 5 1 v (1 + j) (bys (h :: (be k N).take j)) ∧ Below w.heap.size w wr)
          (fun _ i _ => (intOf i + 1).toNat)
        case atStart => exact ⟨0, Nat.zero_le _, by simp, by rw [List.take_zero, E.out]; exact hown1, hb1⟩
        case round =>
          obtain ⟨j, hj, rfl, hor, hbr⟩ := hrel
          by_cases hjk : j < k
          · have hH := has_one wr (.int .u8 ((N : Int) / 2 ^ (8 * (k - 1 - j)) % 256)) 5
            have hor1 := hor.alloc (.cells #[.int .u8 ((N : Int) / 2 ^ (8 * (k - 1 - j)) % 256)] 5)
            have hbr1 := hbr.alloc hbr.size (.cells #[.int .u8 ((N : Int) / 2 ^ (8 * (k - 1 - j)) % 256)] 5)
            clear hor hbr hb1 hown1
            go_wp2_with (at_builtin; go_must (refine wpList_app _ rfl (.tmp 39) (.tmp 46) _ rfl w.heap.size 5 i0 _ 1 1 Try.underlying22 hi hz0 hz1 hz2 rfl (by omega) _ (1 + j) _ rfl hor1 _ _ 1 1 _ rfl hH (by simp [Value.oneCell']) (by unfold maxLen; omega) (by omega) hbr1.size ?_))
            intro v' w3 hown3 hg3 _
            have hb3 : Below w.heap.size w w3 := hbr1.grown hg3 hbr1.size (fun g hg => (hor1.lt g hg).1)
            rw [← c8_shr, be_more _ _ _ _ (be_get k N j hjk), Nat.add_assoc] at hown3
            clear hor1 hbr1 hg3 hH
            go_wp2
            go_roundw
            case rel => exact ⟨j + 1, by omega, by go_num, hown3, hb3⟩
            case measure => simp [intOf]; omega
          · obtain rfl : j = k := by omega
            clear hb1 hown1
            go_wp2
            go_ret
            rw [List.take_of_length_le (by rw [be_length]; exact Nat.le_refl _)] at hor
            exact ⟨_, rfl, hor, hbr⟩

/-- The document's length at any integer. -/
theorem rlen_any (n : Int) (w : World) :
    Calls Try.prog 20 #[.int .i64 n] w fun e w' =>
      ∃ v, e = .returned v ∧ w'.ownsRow w.heap.size 5 1 v (lenOf n).length (bys (lenOf n)) ∧ Below w.heap.size w w' := by
  by_cases h : n < 0 ∨ 2147483647 < n
  · refine (rlen_none n w h).mono ?_
    rintro e w' ⟨rfl, rfl⟩
    rw [lenOf, if_pos h]
    exact ⟨_, rfl, World.ownsRow_nil _ _ _ _, Below.refl _ _⟩
  · obtain ⟨N, rfl⟩ := Int.eq_ofNat_of_zero_le (show 0 ≤ n by omega)
    rw [lenOf, if_neg h]
    by_cases h1 : (N : Int) < 128
    · refine (rlen_small N w (by omega) (by omega)).mono ?_
      rintro e w' ⟨rfl, rfl⟩
      rw [if_pos h1]
      refine ⟨_, rfl, ?_, (Below.refl _ _).alloc (Nat.le_refl _) _⟩
      have := own_lit w #[.int .u8 N] 5 1 (by unfold maxLen; omega) rfl
      simpa [bys, c8_lit N (by omega)] using this
    · rw [if_neg h1]
      have hw := wide_le N
      refine (rlen_wide_of N (wide N) (UInt8.ofNat (128 + wide N)) w (by omega) (by omega) hw.1 hw.2 (hide fun k hk hlt => ?_) (hide ?_) (hide ?_)).mono ?_
      · have := wide_more N k (by omega) hk hlt
        have h2 : 0 < N / 2 ^ (8 * k) := Nat.pos_of_ne_zero this
        exact_mod_cast h2
      · have := wide_done N (by omega)
        intro h2
        have h3 : 0 < N / 2 ^ (8 * wide N) := by exact_mod_cast h2
        omega
      · rw [c8_lit _ (by omega)]
        simp
      · rintro e w' ⟨v, rfl, hown, hb⟩
        refine ⟨v, rfl, ?_, hb⟩
        simpa [be_length, Nat.add_comm] using hown

/-- A field's bytes. -/
def fieldOf (tag : UInt8) (l : List UInt8) : List UInt8 := tag :: (lenOf (l.length : Int) ++ l)

theorem lenOf_le (n : Int) : (lenOf n).length ≤ 5 := by
  unfold lenOf
  split
  · simp
  · split
    · simp
    · have := wide_le n.toNat
      simp [be_length]
      omega

theorem fieldOf_length (tag : UInt8) (l : List UInt8) : (fieldOf tag l).length = 1 + (lenOf (l.length : Int)).length + l.length := by
  simp [fieldOf]
  omega

set_option maxRecDepth 100000 in
set_option maxHeartbeats 800000 in
theorem rfield_of (tag : UInt8) (L l : List UInt8) (k : Int) (w : World) (B : Nat) (A : Option Addr) (c : Nat) (h : Has w B 1 A l.length (bys l)) (hB : B ≤ w.heap.size) (hn : l.length ≤ 140737488351232) (hL : L.length ≤ 5)
    (HX : Hid (Value.int .u8 k = c8 tag))
    (HLN : Hid (∀ w : World, Calls Try.prog 20 #[.int .i64 (l.length : Int)] w fun e w' => ∃ v, e = .returned v ∧ w'.ownsRow w.heap.size 5 1 v L.length (bys L) ∧ Below w.heap.size w w')) :
    Calls Try.prog 17 #[.int .u8 k, .slice A l.length c] w fun e w' =>
      ∃ v, e = .returned v ∧ w'.ownsRow w.heap.size 5 1 v (1 + L.length + l.length) (bys ([tag] ++ L ++ l)) ∧ Below w.heap.size w w' := by
  have hone : (w.alloc (.cells #[.int .u8 k] 5)).ownsRow w.heap.size 5 1 (.slice (some ⟨w.heap.size, 0, none⟩) 1 1) 1 (bys [tag]) := by
    rw [HX.out]
    exact one8 w tag
  have hb0 : Below w.heap.size w (w.alloc (.cells #[.int .u8 k] 5)) := (Below.refl _ _).alloc (Nat.le_refl _) _
  go_enter Try.func17, Try.ntmps17
  go_wp2_with fail
  refine (HLN.out _).mono ?_
  rintro e w1 ⟨v1, rfl, hown1, hb1⟩
  obtain ⟨A1, c1, rfl, _, hH1⟩ := own_form hown1
  have hown2 := own_below hone hb1
  have hb2 : Below w.heap.size w w1 := hb0.trans (hb1.mono (by simp))
  have hs2 := hb2.size
  clear hone hb0 hown1
  go_wp2_with (at_builtin; go_must (refine app8 _ rfl (.tmp 7) (.tmp 10) rfl w.heap.size _ 1 [tag] rfl hown2 _ _ L.length c1 L rfl hH1 (by omega) hs2 ?_))
  intro v5 w5 hown5 hb45 _
  have hb5 := hb2.trans hb45
  have hs5 := hb5.size
  have hH6 := h.below (hb5.mono hB)
  clear hown2 hb2 hs2 hH1 hb45
  go_wp2_with (at_builtin; go_must (refine app8 _ rfl (.tmp 12) (.tmp 13) rfl w.heap.size _ _ _ rfl hown5 _ _ l.length c l rfl hH6 (by omega) hs5 ?_))
  intro v6 w6 hown6 hb56 _
  have hb6 := hb5.trans hb56
  clear hown5 hb5 hs5 hH6 hb56
  go_wp2
  go_ret
  exact ⟨_, rfl, hown6, hb6⟩

theorem rfield_any (tag : UInt8) (w : World) (B : Nat) (A : Option Addr) (n c : Nat) (l : List UInt8) (h : Has w B 1 A n (bys l)) (hB : B ≤ w.heap.size) (hn : n ≤ 140737488351232) :
    Calls Try.prog 17 #[c8 tag, .slice A n c] w fun e w' =>
      ∃ v, e = .returned v ∧ w'.ownsRow w.heap.size 5 1 v (fieldOf tag l).length (bys (fieldOf tag l)) ∧ Below w.heap.size w w' := by
  obtain rfl : l.length = n := by simpa [bys] using h.1
  rw [fieldOf_length]
  exact rfield_of tag (lenOf (l.length : Int)) l (tag.toNat : Int) w B A c h hB hn (lenOf_le _) (hide rfl) (hide (rlen_any _))

def un (l : List UInt8) : Nat := l.foldl (fun n c => n * 256 + c.toNat) 0

/-- A length at the beginning: the length, how many bytes it takes, the error. -/
def cutLen : List UInt8 → Nat × Nat × Int
  | [] => (0, 0, 5)
  | f :: r => if f.toNat < 128 then (f.toNat, 1, 0) else if f.toNat - 128 < 1 ∨ 4 < f.toNat - 128 then (0, 0, 2) else
      if r.length < f.toNat - 128 then (0, 0, 5) else (un (r.take (f.toNat - 128)), 1 + (f.toNat - 128), 0)

theorem or_u64 (s y : Nat) (h0 : y < 256) (h1 : s < 72057594037927936) : bits .or .u64 ((s : Int) * 256) (y : Int) = ((s * 256 + y : Nat) : Int) := by
  show IntKind.u64.wrap ((BitVec.ofInt 64 ((s : Int) * 256) ||| BitVec.ofInt 64 (y : Int)).toNat : Int) = _
  have hz : BitVec.ofInt 64 ((s : Int) * 256) &&& BitVec.ofInt 64 (y : Int) = 0#64 := by
    have e1 : BitVec.ofInt 64 ((s : Int) * 256) = BitVec.ofInt 64 (s : Int) <<< 8 := by
      rw [BitVec.ofInt_mul, BitVec.shiftLeft_eq_mul_twoPow]
      rfl
    rw [e1, BitVec.ofInt_natCast, BitVec.ofInt_natCast]
    apply BitVec.eq_of_getLsbD_eq
    intro i hi
    rw [BitVec.getLsbD_and, BitVec.getLsbD_shiftLeft]
    simp only [BitVec.getLsbD_ofNat]
    by_cases h8 : i < 8
    · simp [h8]
    · have : y.testBit i = false := Nat.testBit_lt_two_pow (Nat.lt_of_lt_of_le (by omega : y < 2 ^ 8) (Nat.pow_le_pow_right (by omega) (by omega)))
      simp [this]
  rw [← BitVec.add_eq_or_of_and_eq_zero _ _ hz, ← BitVec.ofInt_add]
  simp only [IntKind.wrap, IntKind.bits, IntKind.signed, BitVec.toNat_ofInt]
  simp
  omega

theorem un_snoc (l : List UInt8) (j : Nat) (b : UInt8) (hb : l[j]? = some b) : un (l.take (j + 1)) = un (l.take j) * 256 + b.toNat := by
  rw [show l.take (j + 1) = l.take j ++ [b] by rw [List.take_add_one, hb]; rfl]
  simp [un, List.foldl_append]

theorem un_range (l : List UInt8) : ∀ k, l.length = k → un l < 256 ^ k := by
  suffices h : ∀ (l : List UInt8) (n m : Nat), n < 256 ^ m → l.foldl (fun n c => n * 256 + c.toNat) n < 256 ^ (m + l.length) by
    intro k hk
    have := h l 0 0 (by simp)
    rwa [Nat.zero_add, hk] at this
  intro l
  induction l with
  | nil => intro n m h; simpa using h
  | cons c r ih =>
    intro n m h
    rw [List.foldl_cons, List.length_cons, show m + (r.length + 1) = (m + 1) + r.length by omega]
    apply ih
    have hc := c.toNat_lt
    rw [Nat.pow_succ]
    omega

theorem or_low (s y : Int) (h0 : 0 ≤ y) (h1 : y < 256) (h2 : -36028797018963968 ≤ s) (h3 : s < 36028797018963968) : bits .or .i64 (s * 256) y = s * 256 + y := by
  show IntKind.i64.wrap ((BitVec.ofInt 64 (s * 256) ||| BitVec.ofInt 64 y).toNat : Int) = _
  have hz : BitVec.ofInt 64 (s * 256) &&& BitVec.ofInt 64 y = 0#64 := by
    have e1 : BitVec.ofInt 64 (s * 256) = BitVec.ofInt 64 s <<< 8 := by
      rw [BitVec.ofInt_mul, BitVec.shiftLeft_eq_mul_twoPow]
      rfl
    obtain ⟨m, rfl⟩ := Int.eq_ofNat_of_zero_le h0
    rw [e1, BitVec.ofInt_natCast]
    apply BitVec.eq_of_getLsbD_eq
    intro i hi
    rw [BitVec.getLsbD_and, BitVec.getLsbD_shiftLeft, BitVec.getLsbD_ofNat]
    by_cases h8 : i < 8
    · simp [h8]
    · have : m.testBit i = false := Nat.testBit_lt_two_pow (Nat.lt_of_lt_of_le (by omega : m < 2 ^ 8) (Nat.pow_le_pow_right (by omega) (by omega)))
      simp [this]
  rw [← BitVec.add_eq_or_of_and_eq_zero _ _ hz, ← BitVec.ofInt_add]
  simp only [IntKind.wrap, IntKind.bits, IntKind.signed, BitVec.toNat_ofInt]
  simp
  omega

theorem and_31 (x : Nat) (h0 : x < 256) : bits .and .u8 (x : Int) 31 = ((x % 32 : Nat) : Int) := by
  have h : ∀ x : Fin 256, bits .and .u8 ((x.val : Nat) : Int) 31 = ((x.val % 32 : Nat) : Int) := by decide +kernel
  exact h ⟨x, h0⟩

/-- The tag's and the length's size, the length, the error. -/
def headOf : List UInt8 → Nat × Nat × Int
  | [] => (0, 0, 5)
  | t :: r => if t.toNat % 32 = 31 then (0, 0, 2) else if (cutLen r).2.2 ≠ 0 then (0, 0, (cutLen r).2.2) else (1 + (cutLen r).2.1, (cutLen r).1, 0)

set_option maxRecDepth 100000 in
set_option maxHeartbeats 800000 in
theorem head_nil (w : World) (A : Option Addr) (c : Nat) :
    Calls Try.prog 19 #[.slice A 0 c] w fun e w' => e = .returned (.tuple #[.int .i64 0, .int .i64 0, .int .i64 5]) ∧ Below w.heap.size w w' := by
  go_enter Try.func19, Try.ntmps19
  go_wp2
  go_ret3
  exact ⟨rfl, Below.refl _ _⟩

set_option maxRecDepth 100000 in
set_option maxHeartbeats 800000 in
theorem head_many (w : World) (g o n c x : Nat) (h1 : 1 ≤ n) (_hc : n ≤ c) (_hm : c ≤ maxLen) (hx : (bits .and .u8 (x : Int) 31 == 31) = true) (c0 : w.cell? ⟨g, o, none⟩ = some (.int .u8 (x : Int))) :
    Calls Try.prog 19 #[.slice (some ⟨g, o, none⟩) n c] w fun e w' => e = .returned (.tuple #[.int .i64 0, .int .i64 0, .int .i64 2]) ∧ Below w.heap.size w w' := by
  unfold maxLen at _hm
  go_enter Try.func19, Try.ntmps19
  go_wp2
  go_ret3
  exact ⟨rfl, Below.refl _ _⟩

set_option maxRecDepth 100000 in
set_option maxHeartbeats 800000 in
theorem head_one (w : World) (g o c x : Nat) (hx : (bits .and .u8 (x : Int) 31 == 31) = false) (c0 : w.cell? ⟨g, o, none⟩ = some (.int .u8 (x : Int))) :
    Calls Try.prog 19 #[.slice (some ⟨g, o, none⟩) 1 c] w fun e w' => e = .returned (.tuple #[.int .i64 0, .int .i64 0, .int .i64 5]) ∧ Below w.heap.size w w' := by
  go_enter Try.func19, Try.ntmps19
  go_wp2
  go_ret3
  exact ⟨rfl, Below.refl _ _⟩

set_option maxRecDepth 100000 in
set_option maxHeartbeats 800000 in
theorem head_short (w : World) (g o n c x y : Nat) (h1 : 2 ≤ n) (_hc : n ≤ c) (_hm : c ≤ maxLen) (hx : (bits .and .u8 (x : Int) 31 == 31) = false) (c0 : w.cell? ⟨g, o, none⟩ = some (.int .u8 (x : Int)))
    (hy : y < 128) (c1 : w.cell? ⟨g, o + 1, none⟩ = some (.int .u8 (y : Int))) :
    Calls Try.prog 19 #[.slice (some ⟨g, o, none⟩) n c] w fun e w' => e = .returned (.tuple #[.int .i64 2, .int .i64 y, .int .i64 0]) ∧ Below w.heap.size w w' := by
  unfold maxLen at _hm
  go_enter Try.func19, Try.ntmps19
  go_wp2
  go_quiet (fail)
  go_wp2
  go_ret3
  exact ⟨rfl, Below.drewN (Below.refl _ _) _⟩

set_option maxRecDepth 100000 in
set_option maxHeartbeats 800000 in
theorem head_bad (w : World) (g o n c x y : Nat) (h1 : 2 ≤ n) (_hc : n ≤ c) (_hm : c ≤ maxLen) (hx : (bits .and .u8 (x : Int) 31 == 31) = false) (c0 : w.cell? ⟨g, o, none⟩ = some (.int .u8 (x : Int)))
    (hy : 128 ≤ y) (hy8 : y < 256) (hb : y = 128 ∨ 132 < y) (c1 : w.cell? ⟨g, o + 1, none⟩ = some (.int .u8 (y : Int))) :
    Calls Try.prog 19 #[.slice (some ⟨g, o, none⟩) n c] w fun e w' => e = .returned (.tuple #[.int .i64 0, .int .i64 0, .int .i64 2]) ∧ Below w.heap.size w w' := by
  unfold maxLen at _hm
  rcases hb with h | h
  · subst h
    go_enter Try.func19, Try.ntmps19
    go_wp2
    go_ret3
    exact ⟨rfl, Below.refl _ _⟩
  · go_enter Try.func19, Try.ntmps19
    go_wp2
    go_ret3
    exact ⟨rfl, Below.refl _ _⟩

set_option maxRecDepth 100000 in
set_option maxHeartbeats 800000 in
theorem head_lacks (w : World) (g o n c x k : Nat) (h1 : 2 ≤ n) (_hc : n ≤ c) (_hm : c ≤ maxLen) (hx : (bits .and .u8 (x : Int) 31 == 31) = false) (c0 : w.cell? ⟨g, o, none⟩ = some (.int .u8 (x : Int)))
    (hk1 : 1 ≤ k) (hk4 : k ≤ 4) (hn : n < 2 + k) (c1 : w.cell? ⟨g, o + 1, none⟩ = some (.int .u8 (128 + k : Int))) :
    Calls Try.prog 19 #[.slice (some ⟨g, o, none⟩) n c] w fun e w' => e = .returned (.tuple #[.int .i64 0, .int .i64 0, .int .i64 5]) ∧ Below w.heap.size w w' := by
  unfold maxLen at _hm
  have ek : 128 + (k : Int) - 128 = (k : Int) := by omega
  go_enter Try.func19, Try.ntmps19
  go_wp2
  go_ret3
  exact ⟨rfl, Below.refl _ _⟩

set_option maxRecDepth 100000 in
set_option maxHeartbeats 1600000 in
theorem head_wide (w : World) (g o n c x k : Nat) (U : Nat → Nat) (v : Nat) (h1 : 2 ≤ n) (_hc : n ≤ c) (_hm : c ≤ maxLen) (hx : (bits .and .u8 (x : Int) 31 == 31) = false) (c0 : w.cell? ⟨g, o, none⟩ = some (.int .u8 (x : Int)))
    (hk1 : 1 ≤ k) (hk4 : k ≤ 4) (hn : 2 + k ≤ n) (c1 : w.cell? ⟨g, o + 1, none⟩ = some (.int .u8 (128 + k : Int)))
    (HU : Hid (U 0 = 0)) (HV : Hid (U k = v))
    (HC : Hid (∀ j, j < k → ∃ y : Nat, y < 256 ∧ w.cell? ⟨g, o + (2 + j), none⟩ = some (.int .u8 (y : Int)) ∧ U (j + 1) = U j * 256 + y ∧ U j < 16777216)) :
    Calls Try.prog 19 #[.slice (some ⟨g, o, none⟩) n c] w fun e w' => e = .returned (.tuple #[.int .i64 (2 + k : Int), .int .i64 v, .int .i64 0]) ∧ Below w.heap.size w w' := by
  unfold maxLen at _hm
  have ek : 128 + (k : Int) - 128 = (k : Int) := by omega
  go_enter Try.func19, Try.ntmps19
  go_wp2
  go_loop [6, 44] (fun a i => ∃ j : Nat, j ≤ k ∧ i = .int .i64 j ∧ a = .int .i64 (U j)) (fun _ i => k - (intOf i).toNat)
  case atStart => exact ⟨0, Nat.zero_le _, rfl, by rw [HU.out]; rfl⟩
  case round =>
    obtain ⟨j, hj, rfl, rfl⟩ := hrel
    by_cases hlt : j < k
    · obtain ⟨y, hy, hcell, hsv, hs0⟩ := HC.out j hlt
      have HSV := hide hsv
      clear hsv
      generalize U j = s at *
      go_wp2
      go_round
      case rel => exact ⟨j + 1, by omega, by go_num, by rw [HSV.out, or_low s y (by omega) (by omega) (by omega) (by omega)]; simp⟩
      case measure => simp [intOf]; omega
    · obtain rfl : j = k := by omega
      have hv := HV.out
      subst hv
      go_wp2
      go_ret3
      exact ⟨rfl, Below.refl _ _⟩

theorem head_any (w : World) (B : Nat) (A : Option Addr) (n c : Nat) (l : List UInt8) (h : Has w B 1 A n (bys l)) (hc : n ≤ c) (hm : c ≤ maxLen) :
    Calls Try.prog 19 #[.slice A n c] w fun e w' => e = .returned (.tuple #[.int .i64 ((headOf l).1 : Int), .int .i64 ((headOf l).2.1 : Int), .int .i64 (headOf l).2.2]) ∧ Below w.heap.size w w' := by
  have hn : l.length = n := by simpa [bys] using h.1
  match l, hn with
  | [], hn =>
    simp only [List.length_nil] at hn
    subst hn
    exact head_nil w A c
  | [t], hn =>
    simp only [List.length_cons, List.length_nil] at hn
    subst hn
    obtain ⟨g, o, rfl, hg, hcell⟩ := h.lies (by rw [bys_length]; simp)
    have ht := t.toNat_lt
    have c0 := hcell 0 (c8 t) rfl
    simp only [c8, Nat.add_zero] at c0
    have ha := and_31 t.toNat ht
    by_cases h1 : t.toNat % 32 = 31
    · rw [headOf, if_pos h1]
      exact head_many w g o _ c t.toNat (by omega) hc hm (by rw [ha, h1]; rfl) c0
    · rw [headOf, if_neg h1]
      exact head_one w g o c t.toNat (by rw [ha, beq_eq_false_iff_ne]; omega) c0
  | t :: f :: r, hn =>
    obtain ⟨g, o, rfl, hg, hcell⟩ := h.lies (by rw [bys_length]; simp)
    have ht := t.toNat_lt
    have hf := f.toNat_lt
    have c0 := hcell 0 (c8 t) rfl
    have c1 := hcell 1 (c8 f) rfl
    simp only [c8, Nat.add_zero] at c0 c1
    simp only [List.length_cons] at hn
    have ha := and_31 t.toNat ht
    by_cases h1 : t.toNat % 32 = 31
    · rw [headOf, if_pos h1]
      exact head_many w g o _ c t.toNat (by omega) hc hm (by rw [ha, h1]; rfl) c0
    · have hx : (bits .and .u8 (t.toNat : Int) 31 == 31) = false := by
        rw [ha, beq_eq_false_iff_ne]
        omega
      rw [headOf, if_neg h1]
      by_cases h2 : f.toNat < 128
      · have e1 : cutLen (f :: r) = (f.toNat, 1, 0) := by rw [cutLen, if_pos h2]
        rw [e1, if_neg (by simp)]
        exact head_short w g o n c t.toNat f.toNat (by omega) hc hm hx c0 h2 c1
      · by_cases h3 : f.toNat - 128 < 1 ∨ 4 < f.toNat - 128
        · have e1 : cutLen (f :: r) = (0, 0, 2) := by rw [cutLen, if_neg h2, if_pos h3]
          rw [e1, if_pos (by simp)]
          exact head_bad w g o n c t.toNat f.toNat (by omega) hc hm hx c0 (by omega) hf (by omega) c1
        · obtain ⟨k, hk⟩ : ∃ k, f.toNat = 128 + k := ⟨f.toNat - 128, by omega⟩
          have c2 : w.cell? ⟨g, o + 1, none⟩ = some (.int .u8 (128 + k : Int)) := by rw [c1, hk]; simp
          by_cases h4 : r.length < f.toNat - 128
          · have e1 : cutLen (f :: r) = (0, 0, 5) := by rw [cutLen, if_neg h2, if_neg h3, if_pos h4]
            rw [e1, if_pos (by simp)]
            exact head_lacks w g o n c t.toNat k (by omega) hc hm hx c0 (by omega) (by omega) (by omega) c2
          · have e1 : cutLen (f :: r) = (un (r.take k), 1 + k, 0) := by
              rw [cutLen, if_neg h2, if_neg h3, if_neg h4, show f.toNat - 128 = k by omega]
            rw [e1, if_neg (by simp)]
            have := head_wide w g o n c t.toNat k (fun j => un (r.take j)) (un (r.take k)) (by omega) hc hm hx c0 (by omega) (by omega) (by omega) c2 (hide rfl) (hide rfl) (hide fun j hj => ?_)
            · rw [show (((1 + (1 + k) : Nat)) : Int) = 2 + (k : Int) by omega]
              exact this
            · have hb : r[j]? = some (r[j]'(by omega)) := List.getElem?_eq_getElem (by omega)
              have hr := un_range (r.take j) j (by rw [List.length_take]; omega)
              have hp : 256 ^ j ≤ 256 ^ 3 := Nat.pow_le_pow_right (by omega) (by omega)
              refine ⟨(r[j]'(by omega)).toNat, UInt8.toNat_lt _, ?_, un_snoc r j _ hb, by omega⟩
              have := hcell (j + 2) (c8 (r[j]'(by omega))) (by rw [bys, List.getElem?_map, List.getElem?_cons_succ, List.getElem?_cons_succ, hb]; rfl)
              rwa [show o + (2 + j) = o + (j + 2) by omega]

theorem cutLen_le (l : List UInt8) : (cutLen l).2.1 ≤ l.length ∧ (cutLen l).1 < 4294967296 := by
  cases l with
  | nil => simp [cutLen]
  | cons f r =>
    have hf := f.toNat_lt
    rw [cutLen, List.length_cons]
    split
    · simp only
      omega
    · split
      · simp
      · split
        · simp
        · have hr := un_range (r.take (f.toNat - 128)) (f.toNat - 128) (by rw [List.length_take]; omega)
          have hp : 256 ^ (f.toNat - 128) ≤ 256 ^ 4 := Nat.pow_le_pow_right (by omega) (by omega)
          simp only
          omega

theorem headOf_le (l : List UInt8) : (headOf l).1 ≤ l.length ∧ (headOf l).2.1 < 4294967296 := by
  cases l with
  | nil => simp [headOf]
  | cons t r =>
    have := cutLen_le r
    rw [headOf, List.length_cons]
    split
    · simp
    · split
      · simp
      · simp only
        omega

theorem info22 : (Try.prog.info? 22).map (fun i => (i.zero, i.size, i.bytes)) = some (some (.slice none 0 0), 1, 24) := by kernel_rfl

theorem app22 {ops : Array Oper} {rest : List Oper} {o : Oper} {a : Act} {Q : Exit → Act → World → Prop} (W : World) (hgd : o.guard = none) (s x : Operand)
    (ho : o.op = .call { callee := .builtin .append, args := #[s, x], argTypes := #[30, 30] })
    (base : Nat) (v : Value) (n : Nat) (xs : List Value) (hs : a.eval s = v) (hown : W.ownsRow base 22 1 v n xs)
    (B : Nat) (A : Option Addr) (m c : Nat) (l : List Value) (hx : a.eval x = .slice A m c) (hr : Has W B 1 A m l) (h1 : ∀ u ∈ l, u.oneCell' = true)
    (hb : n + m ≤ 4000000000000) (hbase : base ≤ W.heap.size)
    (h : ∀ v' w', w'.ownsRow base 22 1 v' (n + m) (xs ++ l) → (v'.ownBlock = v.ownBlock ∨ v'.ownBlock = some W.heap.size) → W.grownBy w' v.ownBlock → wpList Try.prog ops Q rest (a.put o.dst v') w') :
    wpList Try.prog ops Q (o :: rest) a W := by
  obtain ⟨i0, hi, hz0, hz1, hz2⟩ := info_parts info22
  refine wpList_app W hgd s x 30 ho base 22 i0 _ 1 24 Try.underlying30 hi hz0 hz1 hz2 rfl (by omega) v n xs hs hown B A m c l hx hr h1 (by unfold maxLen; omega) (by omega) hbase ?_
  intro v' w' h1 h2 h3
  exact h v' w' h1 h3 h2

theorem be_succ (k N : Nat) : be (k + 1) N = be k (N / 256) ++ [UInt8.ofNat N] := by
  unfold be
  rw [List.range_succ, List.map_append]
  congr 1
  · apply List.map_congr_left
    intro i hi
    have hik : i < k := List.mem_range.1 hi
    rw [show 8 * (k + 1 - 1 - i) = 8 + 8 * (k - 1 - i) by omega, Nat.pow_add, ← Nat.div_div_eq_div_mul]
  · simp

theorem un_be (k : Nat) : ∀ N, N < 256 ^ k → un (be k N) = N := by
  induction k with
  | zero => intro N h; simp at h; subst h; rfl
  | succ k ih =>
    intro N h
    rw [be_succ]
    have h1 : un (be k (N / 256) ++ [UInt8.ofNat N]) = un (be k (N / 256)) * 256 + (UInt8.ofNat N).toNat := by simp [un, List.foldl_append]
    rw [Nat.pow_succ] at h
    rw [h1, ih (N / 256) (by omega), UInt8.toNat_ofNat']
    omega

theorem wide_fits (n : Nat) (h : n < 4294967296) : n < 256 ^ wide n := by
  unfold wide
  repeat' split
  all_goals simp only [Nat.reducePow] <;> omega

theorem cutLen_lenOf (n : Nat) (h : n ≤ 2147483647) (x : List UInt8) : cutLen (lenOf (n : Int) ++ x) = (n, (lenOf (n : Int)).length, 0) := by
  unfold lenOf
  rw [if_neg (by omega)]
  by_cases h1 : (n : Int) < 128
  · rw [if_pos h1]
    have e : (UInt8.ofNat (n : Int).toNat).toNat = n := by rw [UInt8.toNat_ofNat', Int.toNat_natCast, Nat.mod_eq_of_lt (by omega)]
    rw [List.singleton_append, cutLen, if_pos (by omega), e]
    rfl
  · rw [if_neg h1, Int.toNat_natCast]
    have hw := wide_le n
    have e : (UInt8.ofNat (128 + wide n)).toNat = 128 + wide n := by rw [UInt8.toNat_ofNat', Nat.mod_eq_of_lt (by omega)]
    rw [List.cons_append, cutLen, e, if_neg (by omega), if_neg (by omega), show 128 + wide n - 128 = wide n by omega]
    rw [if_neg (by rw [List.length_append, be_length]; omega)]
    have ht : (be (wide n) n ++ x).take (wide n) = be (wide n) n := by
      rw [List.take_append_of_le_length (by rw [be_length]; omega), List.take_of_length_le (by rw [be_length]; omega)]
    rw [ht, un_be _ _ (wide_fits n (by omega)), List.length_cons, be_length, Nat.add_comm]

theorem own_form' {w : World} {base : Nat} {e : TypeId} {v : Value} {n : Nat} {xs : List Value} (h : w.ownsRow base e 1 v n xs) : ∃ A c, v = .slice A n c ∧ n ≤ c ∧ c ≤ maxLen ∧ Has w w.heap.size 1 A n xs := by
  rcases h.2 with ⟨rfl, rfl⟩ | ⟨g, cap, cur, rfl, _, _, hnc, hm, _⟩
  · exact ⟨none, 0, rfl, Nat.le_refl _, Nat.zero_le _, Has.own h⟩
  · exact ⟨_, cap, rfl, hnc, hm, Has.own h⟩

theorem step22 {ops : Array Oper} {o : Oper} {a : Act} {K : Act → World → Prop} {Q : Exit → Act → World → Prop} {E : Prop} (W : World) (d : Option Tmp) (hd : o.dst = d) (hgd : o.guard = none) (s x : Operand)
    (ho : o.op = .call { callee := .builtin .append, args := #[s, x], argTypes := #[30, 30] })
    (base : Nat) (v : Value) (n : Nat) (xs : List Value) (hs : a.eval s = v) (hown : W.ownsRow base 22 1 v n xs)
    (B : Nat) (A : Option Addr) (m c : Nat) (l : List Value) (hx : a.eval x = .slice A m c) (hr : Has W B 1 A m l) (h1 : ∀ u ∈ l, u.oneCell' = true)
    (hb : n + m ≤ 4000000000000) (hbase : base ≤ W.heap.size)
    (h : ∀ v' w', w'.ownsRow base 22 1 v' (n + m) (xs ++ l) → Below base W w' → (v'.ownBlock = v.ownBlock ∨ v'.ownBlock = some W.heap.size) → W.grownBy w' v.ownBlock → K (a.put d v') w') :
    if Region.wanted o (yielded ops a.tmps) = true then Oper.wp Try.prog o a W K Q else E := by
  subst hd
  obtain ⟨i0, hi, hz0, hz1, hz2⟩ := info_parts info22
  refine step_app W hgd s x 30 ho base 22 i0 _ 1 24 Try.underlying30 hi hz0 hz1 hz2 rfl (by omega) v n xs hs hown B A m c l hx hr h1 (by unfold maxLen; omega) (by omega) hbase ?_
  intro v' w' h1 h2 h3
  exact h v' w' h1 (below_grown hown h2 hbase) h3 h2

/-- Each element of the list of slices reads as its content. -/
def Els (w : World) (B : Nat) (xs : List Value) (L : List (List UInt8)) : Prop :=
  ∀ (i : Nat) (l : List UInt8), L[i]? = some l → ∃ A c, xs[i]? = some (Value.slice A l.length c) ∧ Has w B 1 A l.length (bys l)

set_option maxRecDepth 100000 in
set_option maxHeartbeats 1600000 in
theorem same_some (w : World) (B g o g' o' n ca cb : Nat) (xs ys : List Value) (L : List (List UInt8)) (hca : n ≤ ca) (hcb : n ≤ cb) (hma : ca ≤ maxLen) (_hmb : cb ≤ maxLen)
    (HA : Hid (∀ j u, xs[j]? = some u → w.cell? ⟨g, o + j, none⟩ = some u)) (HB : Hid (∀ j u, ys[j]? = some u → w.cell? ⟨g', o' + j, none⟩ = some u))
    (hn : L.length = n) (EA : Hid (Els w B xs L)) (EB : Hid (Els w B ys L)) :
    Calls Try.prog 14 #[.slice (some ⟨g, o, none⟩) n ca, .slice (some ⟨g', o', none⟩) n cb] w fun e w' => e = .returned (.bool true) ∧ Below w.heap.size w w' := by
  unfold maxLen at hma
  have HN := hide hn
  clear hn
  go_enter Try.func14, Try.ntmps14
  go_wp2
  go_loopw [13] (fun i wr => ∃ k q : Nat, k ≤ n ∧ i = .int .i64 k ∧ wr = w.drewN q) (fun i _ => n - (intOf i).toNat)
  case atStart => exact ⟨0, 0, Nat.zero_le _, rfl, rfl⟩
  case round =>
    obtain ⟨k, q, hk, rfl, rfl⟩ := hrel
    by_cases hlt : k < n
    · have hl : L[k]? = some (L[k]'(by rw [HN.out]; exact hlt)) := List.getElem?_eq_getElem _
      obtain ⟨l, hl'⟩ : ∃ l, l = L[k]'(by rw [HN.out]; exact hlt) := ⟨_, rfl⟩
      rw [← hl'] at hl
      obtain ⟨A1, c1, e1, h1⟩ := EA.out k l hl
      obtain ⟨A2, c2, e2, h2⟩ := EB.out k l hl
      have q1 := HA.out k _ e1
      have q2 := HB.out k _ e2
      have t1 := fun z : Nat => txt8 (w.drewN z) c1 (h1.drewN z)
      have t2 := fun z : Nat => txt8 (w.drewN z) c2 (h2.drewN z)
      have hki : (k : Int) < (n : Int) := by omega
      have hkc : (k : Int) < (ca : Int) := by omega
      clear hl hl' e1 e2 h1 h2
      go_wp2_with fail
      go_quiet (fail)
      go_wp2_with fail
      go_roundw
      case rel => exact ⟨k + 1, _, by omega, by go_num, rfl⟩
      case measure => simp [intOf]; omega
    · obtain rfl : k = n := by omega
      go_wp2
      go_ret
      exact ⟨rfl, Below.drewN (Below.refl _ _) _⟩

set_option maxRecDepth 100000 in
theorem same_nil (w : World) (Aa Ab : Option Addr) (ca cb : Nat) :
    Calls Try.prog 14 #[.slice Aa 0 ca, .slice Ab 0 cb] w fun e w' => e = .returned (.bool true) ∧ Below w.heap.size w w' := by
  go_enter Try.func14, Try.ntmps14
  go_wp2
  refine wp_loop_rounds 1 ?_
  rw [rounds_succ]
  go_wp2
  go_ret
  exact ⟨rfl, Below.refl _ _⟩

theorem same_any (w : World) (B : Nat) (Aa Ab : Option Addr) (n ca cb : Nat) (xs ys : List Value) (L : List (List UInt8)) (hA : Has w B 1 Aa n xs) (hB : Has w B 1 Ab n ys) (hca : n ≤ ca) (hcb : n ≤ cb) (hma : ca ≤ maxLen) (hmb : cb ≤ maxLen)
    (hn : L.length = n) (eA : Els w B xs L) (eB : Els w B ys L) :
    Calls Try.prog 14 #[.slice Aa n ca, .slice Ab n cb] w fun e w' => e = .returned (.bool true) ∧ Below w.heap.size w w' := by
  rcases Nat.eq_zero_or_pos n with h0 | h0
  · subst h0
    exact same_nil w Aa Ab ca cb
  · have h1 := hA.1
    have h2 := hB.1
    obtain ⟨g, o, rfl, _, c1⟩ := hA.lies (by omega)
    obtain ⟨g', o', rfl, _, c2⟩ := hB.lies (by omega)
    exact same_some w B g o g' o' n ca cb xs ys L hca hcb hma hmb (hide c1) (hide c2) hn (hide eA) (hide eB)

theorem Els.below {w w' : World} {xs : List Value} {L : List (List UInt8)} (h : Els w w.heap.size xs L) (hb : Below w.heap.size w w') : Els w' w'.heap.size xs L := fun i l hl => by
  obtain ⟨A, c, e, hH⟩ := h i l hl
  exact ⟨A, c, e, (hH.below hb).upto hb.size⟩

end Go.Proofs.Ytgdaangbgmmgmaa.Ber
