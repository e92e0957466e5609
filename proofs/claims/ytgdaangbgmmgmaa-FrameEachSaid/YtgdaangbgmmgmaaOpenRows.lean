/-
  How a slice of slices of bytes is opened as the list of lists that it reads as; and what its bulk bounds.
-/
import Derived.Test.YtgdaangbgmmgmaaOpens
import Derived.Test.YtgdaangbgmmgmaaRefs
import Derived.Deep.Matrix
namespace Go.Proofs.Ytgdaangbgmmgmaa.Ber
/-- How long the contents are together. -/
def total (L : List (List UInt8)) : Nat := (L.map List.length).sum
end Go.Proofs.Ytgdaangbgmmgmaa.Ber
namespace Go.Proofs.Ytgdaangbgmmgmaa.Opens
open Go.ChangeShapes Go.WideShapes Go.ChangeAt Go.RowKit Go.Proofs.Ytgdaangbgmmgmaa.Ber

def bytesOf (zs : List Int) : List UInt8 := zs.map fun z => UInt8.ofNat z.toNat

theorem has_bytes {W : World} (a : Addr) (n : Nat) (zs : List Int) (hnz : n ≤ zs.length) (hw : ∀ z ∈ zs, (Lit.int .u8 z).wf = true) (hcell : ∀ i, i < zs.length → W.cell? (a.add i) = some (.int .u8 (zs.getD i 0))) :
    Has W W.heap.size 1 (some a) n (bys (bytesOf (zs.take n))) := by
  have hwf : ∀ i, i < zs.length → 0 ≤ zs.getD i 0 ∧ zs.getD i 0 ≤ 255 := fun i hi => by
    have := hw (zs.getD i 0) (by simp [List.getD, List.getElem?_eq_getElem hi])
    simpa [Lit.wf, IntKind.min, IntKind.max, IntKind.signed, IntKind.bits] using this
  have hlen : (bytesOf (zs.take n)).length = n := by simp [bytesOf]; omega
  refine ⟨by rw [bys_length, hlen, Nat.mul_one], ?_⟩
  rcases Nat.eq_zero_or_pos n with h0 | h0
  · left
    subst h0
    simp [bys, bytesOf]
  · right
    refine ⟨a, rfl, ?_, fun j u hu => ?_⟩
    · have := World.block_lt_of_cell? W _ (hcell 0 (by omega))
      rwa [block_add] at this
    · have hj : j < n := by
        have := (List.getElem?_eq_some_iff.1 hu).1
        rwa [bys_length, hlen] at this
      rw [hcell j (by omega)]
      have hw := hwf j (by omega)
      have e1 : (bys (bytesOf (zs.take n)))[j]? = some (c8 (UInt8.ofNat (zs.getD j 0).toNat)) := by
        simp only [bys, bytesOf, List.map_map, List.getElem?_map, List.getElem?_take, if_pos hj, List.getElem?_eq_getElem (show j < zs.length by omega), Option.map_some, Function.comp_apply]
        simp [List.getD, List.getElem?_eq_getElem (show j < zs.length by omega)]
      rw [e1] at hu
      injection hu with hu
      rw [← hu, c8_lit _ (by omega), Int.toNat_of_nonneg hw.1]

theorem bulk_map {H : Type} (D : Nat → DataW H) (g : Nat → List UInt8) : ∀ l : List Nat, (∀ r ∈ l, (g r).length + 1 ≤ Rows.uptoBulk (D r)) → l.length + total (l.map g) ≤ Rows.uptoBulkAll (l.map D)
  | [], _ => by simp [total, Rows.uptoBulkAll]
  | r :: l, h => by
    have h1 := h r (by simp)
    have h2 := bulk_map D g l (fun s hs => h s (by simp [hs]))
    have h3 : total ((r :: l).map g) = (g r).length + total (l.map g) := by simp [total]
    rw [h3, List.length_cons]
    simp only [List.map_cons, Rows.uptoBulkAll]
    omega

theorem row_bulk {H : Type} {A : Option Addr} {n : Nat} {zs : List Int} (hn : n ≤ zs.length) (h0 : A = none → n = 0) : (bytesOf (zs.take n)).length + 1 ≤ Rows.uptoBulk (Go.Deep.intRow (H := H) .u8 A n zs) := by
  have hlen : (bytesOf (zs.take n)).length = n := by simp [bytesOf]; omega
  rw [hlen]
  cases A with
  | none =>
    rw [h0 rfl]
    simp [Go.Deep.intRow, Rows.uptoBulk]
  | some a =>
    have h1 := many_le (lits (H := H) .u8 (zs.take n))
    have h2 : (lits (H := H) .u8 (zs.take n)).length = n := by simp [lits]; omega
    simp only [Go.Deep.intRow, Rows.uptoBulk]
    omega

/-- A slice of slices of bytes that came in. -/
theorem open_rows {H : Type} {enc : TypeId × Value → H} {P : Program} {W : World} {r : Reach} {base base' : Nat} {held : Bool} {t e q : TypeId} {v : Value} {d : DataW H} {p : List MemPlace}
    (ht : P.underlying t = some (.slice e)) (he : P.underlying e = some (.slice q)) (hq : P.underlying q = some (.int .u8)) (ce : P.cellsOf e = 1) (cq : P.cellsOf q = 1)
    (hv : Value.okWide P W r base' t v) (h : DataW.Trod enc P W base (fun _ => true) held t v d p) :
    ∃ A n c xs L, v = .slice A n c ∧ n ≤ c ∧ c ≤ maxLen ∧ L.length = n ∧ xs.length = n ∧ Has W W.heap.size 1 A n xs ∧ Els W W.heap.size xs L ∧ n + total L + 1 ≤ Rows.uptoBulk d := by
  obtain ⟨A, n, c, rfl⟩ := okWide_slice ht hv
  obtain ⟨fuel, hf⟩ := h
  rcases Go.Deep.open_int_rows ht he hq ce cq hf with ⟨hcs, hx⟩ | ⟨a, len, cap, A2, L2, C2, Z, hcs, _, hl, hm, hx, hrow⟩
  · simp [Value.cells] at hcs
    obtain ⟨rfl, rfl, rfl⟩ := hcs
    simp only [Prod.mk.injEq] at hx
    refine ⟨none, 0, 0, [], [], rfl, Nat.le_refl _, Nat.zero_le _, rfl, rfl, Has.nil, fun i l hl => by simp at hl, ?_⟩
    rw [hx.1]
    simp [total, Rows.uptoBulk]
  · simp [Value.cells] at hcs
    obtain ⟨rfl, rfl, rfl⟩ := hcs
    simp only [Prod.mk.injEq] at hx
    refine ⟨some a, n, c, (List.range n).map fun r => .slice (A2 r) (L2 r) (C2 r), (List.range n).map fun r => bytesOf ((Z r).take (L2 r)), rfl, hl, hm, by simp, by simp, ⟨by simp, ?_⟩, fun i l hil => ?_, ?_⟩
    · rcases Nat.eq_zero_or_pos n with h0 | h0
      · left
        subst h0
        rfl
      · right
        refine ⟨a, rfl, ?_, fun j u hu => ?_⟩
        · have := World.block_lt_of_cell? W _ (hrow 0 (by omega)).1
          rwa [block_add] at this
        · have hj : j < n := by
            have := (List.getElem?_eq_some_iff.1 hu).1
            simpa using this
          rw [(hrow j (by omega)).1]
          simpa [List.getElem?_range hj] using hu
    · have hi : i < n := by
        have := (List.getElem?_eq_some_iff.1 hil).1
        simpa using this
      obtain ⟨_, r1, r2, r3, r4, r5, r6⟩ := hrow i (by omega)
      obtain rfl : bytesOf ((Z i).take (L2 i)) = l := by simpa [List.getElem?_range hi] using hil
      have hlen : (bytesOf ((Z i).take (L2 i))).length = L2 i := by simp [bytesOf]; omega
      refine ⟨A2 i, C2 i, by rw [hlen]; simp [List.getElem?_range hi], ?_⟩
      rw [hlen]
      cases hA : A2 i with
      | none =>
        have h0 := r5 hA
        have : L2 i = 0 := by omega
        rw [this]
        exact Has.nil
      | some a' => exact has_bytes a' (L2 i) (Z i) (by omega) r4 (fun j hj => (r6 a' hA).2 j (by omega))
    · rw [hx.1]
      have h1 := bulk_map (fun r => Go.Deep.intRow (H := H) .u8 (A2 r) (L2 r) (Z r)) (fun r => bytesOf ((Z r).take (L2 r))) (List.range n) (fun r hr => by
        have hr' := List.mem_range.1 hr
        obtain ⟨_, r1, r2, r3, r4, r5, r6⟩ := hrow r (by omega)
        exact row_bulk (by omega) (fun h => by have := r5 h; omega))
      simp only [Rows.uptoBulk]
      rw [List.length_range] at h1
      omega


end Go.Proofs.Ytgdaangbgmmgmaa.Opens
