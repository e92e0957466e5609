/-
  Who may do what, as plain mathematics: rules, formed or not, and what is decided by them. By an AI agent.
-/
import Derived.Test.YtilggbfjdglaaaaGreatDoorMI
namespace Go.Proofs.YtilggbfjdglaaaaGreatDoor
open Go.RowKit
set_option linter.unusedVariables false
set_option linter.unusedSimpArgs false

/-- A rule. -/
structure Ru where
  who : List UInt8
  tgt : List UInt8
  att : List UInt8
  rts : Int
  alw : Bool

/-- A rule's cells. -/
def ruC (r : Ru) : List Value := [.string (txt r.who), .string (txt r.tgt), .string (txt r.att), .int .i64 r.rts, .bool r.alw]
def rusC (L : List Ru) : List Value := L.flatMap ruC
theorem rusC_len : ∀ L : List Ru, (rusC L).length = L.length * 5
  | [] => rfl
  | r :: L => by
    have := rusC_len L
    unfold rusC at this ⊢
    rw [List.flatMap_cons, List.length_append, this, List.length_cons]
    simp [ruC]; omega
theorem rusC_app (L M : List Ru) : rusC (L ++ M) = rusC L ++ rusC M := by simp [rusC]
theorem rusC_at : ∀ (L : List Ru) (i : Nat) (r : Ru), L[i]? = some r → ∀ k, k < 5 → (rusC L)[i * 5 + k]? = (ruC r)[k]?
  | [], i, r, h, k, hk => by simp at h
  | q :: L, 0, r, h, k, hk => by
    obtain rfl : q = r := by simpa using h
    unfold rusC
    rw [List.flatMap_cons, List.getElem?_append_left (by simp [ruC]; omega)]
    congr 1; omega
  | q :: L, i + 1, r, h, k, hk => by
    have := rusC_at L i r (by simpa using h) k hk
    unfold rusC at this ⊢
    rw [List.flatMap_cons, List.getElem?_append_right (by simp [ruC]; omega), ← this]
    congr 1
    simp [ruC]; omega
theorem rusC_one (L : List Ru) : ∀ u ∈ rusC L, u.oneCell' = true := by
  intro u hu
  obtain ⟨r, _, hr⟩ := List.mem_flatMap.1 hu
  simp only [ruC, List.mem_cons, List.not_mem_nil, or_false] at hr
  rcases hr with rfl | rfl | rfl | rfl | rfl <;> rfl

/-- Where the i-th rule lies. -/
structure RuAt (w : World) (g o : Nat) (r : Ru) : Prop where
  c0 : w.cell? ⟨g, o, none⟩ = some (.string (txt r.who))
  c1 : w.cell? ⟨g, o + 1, none⟩ = some (.string (txt r.tgt))
  c2 : w.cell? ⟨g, o + 2, none⟩ = some (.string (txt r.att))
  c3 : w.cell? ⟨g, o + 3, none⟩ = some (.int .i64 r.rts)
  c4 : w.cell? ⟨g, o + 4, none⟩ = some (.bool r.alw)
theorem RuAt.below {w w' : World} {B g o : Nat} {r : Ru} (h : RuAt w g o r) (hg : g < B) (hb : Below B w w') : RuAt w' g o r :=
  ⟨(hb.cell hg).trans h.c0, (hb.cell hg).trans h.c1, (hb.cell hg).trans h.c2, (hb.cell hg).trans h.c3, (hb.cell hg).trans h.c4⟩
theorem Has.rule {w : World} {B n : Nat} {A : Option Addr} {L : List Ru} (h : Has w B 5 A n (rusC L)) (hL : L ≠ []) :
    ∃ g o, A = some ⟨g, o, none⟩ ∧ g < B ∧ ∀ (i : Nat) (r : Ru), L[i]? = some r → RuAt w g (o + i * 5) r := by
  have hp := List.length_pos_iff.2 hL
  obtain ⟨g, o, rfl, hg, hc⟩ := h.lies (by rw [rusC_len]; omega)
  refine ⟨g, o, rfl, hg, fun i r hr => ?_⟩
  have hk := fun k hk => rusC_at L i r hr k hk
  have h0 := hc _ _ ((hk 0 (by omega)).trans rfl)
  have h1 := hc _ _ ((hk 1 (by omega)).trans rfl)
  have h2 := hc _ _ ((hk 2 (by omega)).trans rfl)
  have h3 := hc _ _ ((hk 3 (by omega)).trans rfl)
  have h4 := hc _ _ ((hk 4 (by omega)).trans rfl)
  rw [← Nat.add_assoc] at h0 h1 h2 h3 h4
  exact ⟨h0, h1, h2, h3, h4⟩
theorem Has.rules_n {w : World} {B n : Nat} {A : Option Addr} {L : List Ru} (h : Has w B 5 A n (rusC L)) : n = L.length := by
  have := h.1
  rw [rusC_len] at this
  omega

/-! ### The bits of an int -/

def andI (x y : Int) : Int := IntKind.i64.wrap ((BitVec.ofInt IntKind.i64.bits x &&& BitVec.ofInt IntKind.i64.bits y).toNat : Int)
def andNotI (x y : Int) : Int := IntKind.i64.wrap ((BitVec.ofInt IntKind.i64.bits x &&& ~~~BitVec.ofInt IntKind.i64.bits y).toNat : Int)

theorem wrap_bv (v : BitVec 64) : IntKind.i64.wrap (v.toNat : Int) = v.toInt := by
  have := v.isLt
  rw [BitVec.toInt_eq_toNat_cond]
  have key : IntKind.i64.wrap (v.toNat : Int) = if (9223372036854775808 : Int) ≤ (v.toNat : Int) % 18446744073709551616 then (v.toNat : Int) % 18446744073709551616 - 18446744073709551616 else (v.toNat : Int) % 18446744073709551616 := by
    simp [IntKind.wrap, IntKind.signed, IntKind.bits]
  rw [key]
  by_cases h : 2 * v.toNat < 2 ^ 64
  · rw [if_pos h, if_neg (by omega)]; omega
  · rw [if_neg h, if_pos (by omega)]; omega
theorem andI_eq (x y : Int) : andI x y = (BitVec.ofInt 64 x &&& BitVec.ofInt 64 y).toInt := wrap_bv _
theorem andNotI_eq (x y : Int) : andNotI x y = (BitVec.ofInt 64 x &&& ~~~BitVec.ofInt 64 y).toInt := wrap_bv _
theorem int0 {v : BitVec 64} : v.toInt = 0 ↔ v = 0#64 := by
  constructor
  · intro h; exact BitVec.toInt_inj.1 (h.trans (by decide))
  · rintro rfl; decide
theorem bv_part (x b : BitVec 64) : x = (x &&& b) ||| (x &&& ~~~b) := by
  ext i hi
  simp
  cases x[i] <;> cases b[i] <;> rfl
theorem bv_dist (u v q : BitVec 64) : (u ||| v) &&& q = (u &&& q) ||| (v &&& q) := by
  ext i hi
  simp
  cases u[i] <;> cases v[i] <;> cases q[i] <;> rfl
theorem bv_or0 {u v : BitVec 64} : u ||| v = 0#64 ↔ u = 0#64 ∧ v = 0#64 := by
  constructor
  · intro h
    have hb : ∀ (i : Nat) (hi : i < 64), u[i] = false ∧ v[i] = false := by
      intro i hi
      have := congrArg (fun z : BitVec 64 => z[i]) h
      simpa using this
    constructor
    · ext i hi; simpa using (hb i hi).1
    · ext i hi; simpa using (hb i hi).2
  · rintro ⟨rfl, rfl⟩; rfl
/-- Who has a right has it with one of both parts. -/
theorem and_parts (r b q : Int) : andI r q = 0 ↔ andI (andI r b) q = 0 ∧ andI (andNotI r b) q = 0 := by
  rw [andI_eq r q, andI_eq (andI r b) q, andI_eq (andNotI r b) q, andI_eq r b, andNotI_eq r b, BitVec.ofInt_toInt, BitVec.ofInt_toInt, int0, int0, int0]
  conv => lhs; lhs; lhs; rw [bv_part (BitVec.ofInt 64 r) (BitVec.ofInt 64 b)]
  rw [bv_dist, bv_or0]
theorem and_none {r b : Int} (h1 : andI r b = 0) (h2 : andNotI r b = 0) (hr : 0 ≤ r) (hr2 : r ≤ 63) : r = 0 := by
  rw [andI_eq, int0] at h1
  rw [andNotI_eq, int0] at h2
  have h := bv_part (BitVec.ofInt 64 r) (BitVec.ofInt 64 b)
  rw [h1, h2] at h
  have := congrArg BitVec.toInt h
  rw [BitVec.toInt_ofInt] at this
  have e : r.bmod (2 ^ 64) = r := by
    rw [Int.bmod_eq_of_le (by omega) (by omega)]
  rw [e] at this
  exact this
theorem and_small (v : BitVec 64) {r : Int} (hr : 0 ≤ r) (hr2 : r ≤ 63) : 0 ≤ (BitVec.ofInt 64 r &&& v).toInt ∧ (BitVec.ofInt 64 r &&& v).toInt ≤ 63 := by
  have h1 : (BitVec.ofInt 64 r &&& v).toNat ≤ 63 := by
    rw [BitVec.toNat_and]
    refine Nat.le_trans Nat.and_le_left ?_
    rw [BitVec.toNat_ofInt]
    omega
  rw [BitVec.toInt_eq_toNat_cond]
  split <;> omega

/-! ### What a rule says -/

/-- Whether something holds, as a bool. -/
noncomputable def Tr (p : Prop) : Bool := @decide p (Classical.propDecidable p)
theorem Tr_yes {p : Prop} (h : p) : Tr p = true := @decide_eq_true p (Classical.propDecidable p) h
theorem Tr_no {p : Prop} (h : ¬ p) : Tr p = false := @decide_eq_false p (Classical.propDecidable p) h
theorem Tr_iff {p : Prop} : Tr p = true ↔ p := ⟨fun h => @of_decide_eq_true p (Classical.propDecidable p) h, Tr_yes⟩
theorem toeq (l m : List UInt8) : ((txt l).toList == m) = (l == m) := by rw [txt_bytes]

/-- The name of the type that is asked about, and whether there is such a one. -/
def tnV (a : List UInt8) : List UInt8 × Bool := ((typ a).1, decide (a = [] ∨ (typ a).1 ≠ []))
def NormP (t : List UInt8) : Prop := normT t = (t, 0)
def WhoP (s : List UInt8) : Prop := s = [42] ∨ s = [45] ∨ s = [61] ∨ ∃ l, s = 64 :: l ∧ NormP l
structure FormedP (r : Ru) : Prop where
  att : (tnV r.att).2 = true ∧ (tnV r.att).1 = r.att
  lo : 1 ≤ r.rts
  hi : r.rts ≤ 63
  who : WhoP r.who
  tgt : NormP r.tgt
def AllP (L : List Ru) : Prop := L.length ≤ 40 ∧ ∀ r ∈ L, FormedP r

/-- What is asked, its names and type made normal. -/
structure Qn where
  s : List UInt8
  n : List UInt8
  t : List UInt8
  right : Int

/-- A Who without the sign ahead of its name. -/
def trimAt (s : List UInt8) : List UInt8 := Lib.trimPrefix s [64]
theorem trim_at (l : List UInt8) : Lib.trimPrefix (64 :: l) [64] = l := by simp [Lib.trimPrefix, Lib.hasPrefix, List.isPrefixOf]
theorem pre_at (l : List UInt8) : Lib.hasPrefix (64 :: l) [64] = true := by simp [Lib.hasPrefix, List.isPrefixOf]
theorem pre_no {s : List UInt8} (h : ∀ l, s ≠ 64 :: l) : Lib.hasPrefix s [64] = false := by
  cases s with
  | nil => rfl
  | cons x r =>
    have : x ≠ 64 := fun e => h r (by rw [e])
    simp [Lib.hasPrefix, List.isPrefixOf, Ne.symm this]
theorem trim_no {s : List UInt8} (h : ∀ l, s ≠ 64 :: l) : Lib.trimPrefix s [64] = s := by simp [Lib.trimPrefix, pre_no h]
theorem trim_len (s : List UInt8) : (Lib.trimPrefix s [64]).length ≤ s.length := by
  unfold Lib.trimPrefix
  split
  · simp
  · exact Nat.le_refl _
open Classical in
noncomputable def isV (who s n : List UInt8) : Bool :=
  if who = [42] then true else if who = [45] then decide (s = []) else if who = [61] then decide (s ≠ [] ∧ s = n) else (decide (s ≠ []) && underV s (trimAt who))
open Classical in
noncomputable def aboutV (r : Ru) (q : Qn) : Bool :=
  decide (andI r.rts q.right ≠ 0 ∧ (r.att = [] ∨ r.att = q.t)) && isV r.who q.s q.n && underV q.n r.tgt
noncomputable def firstV : List Ru → Qn → Bool
  | [], _ => false
  | r :: L, q => if aboutV r q = true then r.alw else firstV L q

def RightP (x : Int) : Prop := x = 1 ∨ x = 2 ∨ x = 4 ∨ x = 8 ∨ x = 16 ∨ x = 32
/-- Is it a question? -/
def AskP (s : List UInt8) (right : Int) (n a : List UInt8) : Prop := RightP right ∧ (normT s).2 = 0 ∧ (normT n).2 = 0 ∧ (tnV a).2 = true
noncomputable def askV (s : List UInt8) (right : Int) (n a : List UInt8) : Qn := ⟨(normT s).1, (normT n).1, (tnV a).1, right⟩
open Classical in
noncomputable def decideV (L : List Ru) (s : List UInt8) (right : Int) (n a : List UInt8) : Bool :=
  if AskP s right n a ∧ AllP L then firstV L (askV s right n a) else false

theorem decide_no {L : List Ru} {s n a : List UInt8} {right : Int} (h : ¬ (AskP s right n a ∧ AllP L)) : decideV L s right n a = false := by
  unfold decideV; rw [if_neg h]
theorem decide_yes {L : List Ru} {s n a : List UInt8} {right : Int} (h : AskP s right n a) (h2 : AllP L) : decideV L s right n a = firstV L (askV s right n a) := by
  unfold decideV; rw [if_pos ⟨h, h2⟩]

/-- PolicySpelt: how names are spelt doesn't matter. -/
theorem decide_spelt (L : List Ru) (s n a : List UInt8) (right : Int) (hs : (normT s).2 = 0) (hn : (normT n).2 = 0) :
    decideV L (normT s).1 right (normT n).1 a = decideV L s right n a := by
  have h1 := (norm_again hs).1
  have h2 := (norm_again hn).1
  unfold decideV AskP askV
  rw [h1, h2]
theorem decide_name (L : List Ru) (s n a : List UInt8) (right : Int) (h : ¬ ((normT s).2 = 0 ∧ (normT n).2 = 0)) : decideV L s right n a = false :=
  decide_no fun ⟨h1, _⟩ => h ⟨h1.2.1, h1.2.2.1⟩

/-! ### Rules whose rights are parted -/

def partX (by_ : Int) (r : Ru) : Ru := { r with rts := andI r.rts by_ }
def partY (by_ : Int) (r : Ru) : Ru := { r with rts := andNotI r.rts by_ }
def part1 (by_ : Int) (r : Ru) : List Ru := (if andI r.rts by_ = 0 then [] else [partX by_ r]) ++ (if andNotI r.rts by_ = 0 then [] else [partY by_ r])
def partL (by_ : Int) (L : List Ru) : List Ru := L.flatMap (part1 by_)
theorem partL_snoc (b : Int) (L : List Ru) (r : Ru) : partL b (L ++ [r]) = partL b L ++ part1 b r := by simp [partL]
theorem part1_len (b : Int) (r : Ru) : (part1 b r).length ≤ 2 := by
  unfold part1
  split <;> split <;> simp
theorem partL_len (b : Int) : ∀ L : List Ru, (partL b L).length ≤ 2 * L.length
  | [] => by simp [partL]
  | r :: L => by
    have h1 := partL_len b L
    have h2 := part1_len b r
    unfold partL at h1 ⊢
    rw [List.flatMap_cons, List.length_append, List.length_cons]
    omega

theorem about_part (b : Int) (r : Ru) (q : Qn) : aboutV r q = (aboutV (partX b r) q || aboutV (partY b r) q) := by
  unfold aboutV partX partY
  simp only
  have h := and_parts r.rts b q.right
  by_cases h1 : andI (andI r.rts b) q.right = 0
  · by_cases h2 : andI (andNotI r.rts b) q.right = 0
    · have h0 := h.2 ⟨h1, h2⟩
      simp [h0, h1, h2]
    · have h0 : ¬ andI r.rts q.right = 0 := fun e => h2 (h.1 e).2
      simp [h0, h1, h2]
  · have h0 : ¬ andI r.rts q.right = 0 := fun e => h1 (h.1 e).1
    by_cases h2 : andI (andNotI r.rts b) q.right = 0
    · simp [h0, h1, h2]
    · simp [h0, h1, h2]
theorem and_zero (q : Int) : andI 0 q = 0 := by
  rw [andI_eq, int0]
  simp
theorem about_zero {r : Ru} (h : r.rts = 0) (q : Qn) : aboutV r q = false := by
  unfold aboutV
  rw [h, and_zero]
  simp
theorem first_app : ∀ (L M : List Ru) (q : Qn), (∀ r ∈ L, aboutV r q = false) → firstV (L ++ M) q = firstV M q
  | [], _, _, _ => rfl
  | r :: L, M, q, h => by
    have ih := first_app L M q fun x hx => h x (by simp [hx])
    have h1 := h r (by simp)
    rw [List.cons_append]
    show (if aboutV r q = true then r.alw else firstV (L ++ M) q) = firstV M q
    rw [h1, ih]
    rfl
theorem first_part1 (b : Int) (r : Ru) (M : List Ru) (q : Qn) : firstV (part1 b r ++ M) q = if aboutV r q = true then r.alw else firstV M q := by
  rw [about_part b r q]
  unfold part1
  by_cases h1 : andI r.rts b = 0
  · have hx : aboutV (partX b r) q = false := about_zero h1 q
    by_cases h2 : andNotI r.rts b = 0
    · have hy : aboutV (partY b r) q = false := about_zero h2 q
      simp [h1, h2, hx, hy]
    · simp [h1, h2, hx, firstV]
      rfl
  · by_cases h2 : andNotI r.rts b = 0
    · have hy : aboutV (partY b r) q = false := about_zero h2 q
      simp [h1, h2, hy, firstV]
      rfl
    · simp only [h1, h2, if_false, List.cons_append, List.nil_append, firstV]
      cases aboutV (partX b r) q <;> cases aboutV (partY b r) q <;> simp [partX, partY]
theorem first_part (b : Int) (q : Qn) : ∀ L : List Ru, firstV (partL b L) q = firstV L q
  | [] => rfl
  | r :: L => by
    have h := first_part b q L
    unfold partL at h ⊢
    rw [List.flatMap_cons, first_part1, h]
    rfl

/-- A reference's look at one rule: it asks of its names no more than that they have a normal text. -/
def WhoR (s : List UInt8) : Prop := s = [42] ∨ s = [45] ∨ s = [61] ∨ ∃ l, s = 64 :: l ∧ (normT l).2 = 0
structure FormedR (r : Ru) : Prop where
  who : WhoR r.who
  tgt : (normT r.tgt).2 = 0
  att : r.att = (typ r.att).1
  lo : 1 ≤ r.rts
  hi : r.rts ≤ 63
def AllR (L : List Ru) : Prop := L.length ≤ 40 ∧ ∀ r ∈ L, FormedR r

theorem formed_part {b : Int} {r : Ru} (hr : FormedR r) : (∀ x ∈ part1 b r, FormedP x) ↔ FormedP r := by
  have lo := hr.lo
  have hi := hr.hi
  have hx := and_small (BitVec.ofInt 64 b) (r := r.rts) (by omega) hi
  have hy := and_small (~~~BitVec.ofInt 64 b) (r := r.rts) (by omega) hi
  rw [← andI_eq] at hx
  rw [← andNotI_eq] at hy
  constructor
  · intro h
    by_cases h1 : andI r.rts b = 0
    · have h2 : ¬ andNotI r.rts b = 0 := fun h2 => by have := and_none h1 h2 (by omega) hi; omega
      have := h (partY b r) (by unfold part1; simp [h2])
      exact ⟨this.att, lo, hi, this.who, this.tgt⟩
    · have := h (partX b r) (by unfold part1; simp [h1])
      exact ⟨this.att, lo, hi, this.who, this.tgt⟩
  · intro h x hx'
    unfold part1 at hx'
    rcases List.mem_append.1 hx' with hm | hm
    · split at hm
      · cases hm
      · obtain rfl := List.mem_singleton.1 hm
        exact ⟨h.att, by simp only [partX]; omega, by simp only [partX]; omega, h.who, h.tgt⟩
    · split at hm
      · cases hm
      · obtain rfl := List.mem_singleton.1 hm
        exact ⟨h.att, by simp only [partY]; omega, by simp only [partY]; omega, h.who, h.tgt⟩
theorem all_part {b : Int} {L : List Ru} (hL : AllR L) (h20 : L.length ≤ 20) : AllP (partL b L) ↔ AllP L := by
  have hlen := partL_len b L
  constructor
  · rintro ⟨_, h⟩
    refine ⟨hL.1, fun r hr => (formed_part (b := b) (hL.2 r hr)).1 fun x hx => h x (List.mem_flatMap.2 ⟨r, hr, hx⟩)⟩
  · rintro ⟨_, h⟩
    refine ⟨by omega, fun x hx => ?_⟩
    obtain ⟨r, hr, hx⟩ := List.mem_flatMap.1 hx
    exact (formed_part (b := b) (hL.2 r hr)).2 (h r hr) x hx
/-- PolicyParts. -/
theorem decide_part (b : Int) (L : List Ru) (hL : AllR L) (h20 : L.length ≤ 20) (s n a : List UInt8) (right : Int) : decideV (partL b L) s right n a = decideV L s right n a := by
  have h := all_part (b := b) hL h20
  by_cases hA : AskP s right n a ∧ AllP L
  · rw [decide_yes hA.1 hA.2, decide_yes hA.1 (h.2 hA.2), first_part]
  · rw [decide_no hA, decide_no fun hh => hA ⟨hh.1, h.1 hh.2⟩]

/-! ### The statements' look -/

theorem norm_nil : normT [] = ([], 0) := by
  have : partsV [] = (some [], 0) := parts_join TextsOk.root
  rw [norm_yes' this]
  rfl
theorem name_dcx : nameV [100, 99, 61, 120] = (some [[([100, 99], [120])]], 0) := by
  have hc : cuts 44 [100, 99, 61, 120] = [[100, 99, 61, 120]] := by decide
  have p2 : parseP [100, 99, 61, 120] = some [([100, 99], [120])] := by
    have h1 : (cuts 43 [100, 99, 61, 120]).length ≤ 3 := by decide
    have h2 : (cuts 43 [100, 99, 61, 120]).mapM rdPairT = some [([100, 99], [120])] := by decide
    have h3 : sortP [([100, 99], [120])] = [([100, 99], [120])] := by decide
    rw [parse_some h1 h2, h3, if_pos]
    refine ⟨by decide, by decide, fun a ha => ?_, by decide⟩
    obtain rfl := List.mem_singleton.1 ha
    exact ⟨by decide, Or.inl (by decide), by rw [norm_word _ _ (by decide) (by decide) (by decide) (by decide)]⟩
  unfold nameV
  rw [if_neg (by decide), if_neg (by decide), hc, if_neg (by decide), mapM_cons', p2]
  rfl
theorem parts_dcx : partsV [100, 99, 61, 120] = (some [[100, 99, 61, 120]], 0) := by
  have t2 : ptx [([100, 99], [120])] = [100, 99, 61, 120] := by
    unfold ptx normP
    simp only [List.map_cons, List.map_nil]
    rw [norm_word _ _ (by decide) (by decide) (by decide) (by decide)]
    decide
  unfold partsV
  rw [name_dcx]
  simp only [List.map_cons, List.map_nil, t2]
  rw [if_neg (by decide)]
theorem awake_V : decideV [⟨[42], [], [], 1, true⟩] [] 1 [100, 99, 61, 120] [99, 110] = true := by
  have h0 := norm_nil
  have h1 : normT [100, 99, 61, 120] = ([100, 99, 61, 120], 0) := by rw [norm_yes' parts_dcx]; rfl
  have hu : underV [100, 99, 61, 120] [] = true := by
    unfold underV
    rw [parts_dcx, show partsV [] = (some [], 0) from parts_join TextsOk.root]
    rfl
  have ht : tnV [99, 110] = ([99, 110], true) := by decide
  have ht0 : tnV [] = ([], true) := by decide
  have ha : andI 1 1 = 1 := by decide
  rw [decide_yes ⟨Or.inl rfl, by rw [h0], by rw [h1], by rw [ht]⟩ ⟨by decide, fun r hr => by
    obtain rfl := List.mem_singleton.1 hr
    exact ⟨by rw [ht0]; exact ⟨rfl, rfl⟩, by decide, by decide, Or.inl rfl, h0⟩⟩]
  unfold firstV aboutV askV isV
  simp only [h0, h1, ht, ha, hu]
  simp

end Go.Proofs.YtilggbfjdglaaaaGreatDoor
