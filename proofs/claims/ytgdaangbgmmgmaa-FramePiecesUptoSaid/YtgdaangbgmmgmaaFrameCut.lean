/-
  The cutter in memory: a row of 16,389 cells: the most, the state, the bytes that wait, how many they are, and what is still to come. No statement is proved here.
-/
import Derived.Test.YtgdaangbgmmgmaaSeat
import Derived.Deep.WholeRow
namespace Go.Proofs.Ytgdaangbgmmgmaa.Frame
open Go.RowKit

/-! ### The zero value: 16,389 cells, told by one check -/
def isZ (k : IntKind) : Value → Bool
  | .int k' v => decide (k' = k) && decide (v = 0)
  | _ => false

theorem isZ_eq {k : IntKind} {v : Value} (h : isZ k v = true) : v = .int k 0 := by
  cases v <;> simp_all [isZ]

/-- So many zero bytes, and then the last three. -/
def zrun : List Value → Nat → Bool
  | [], _ => false
  | x :: r, 0 => match r with | [y, z] => isZ .i64 x && isZ .i64 y && isZ .i64 z | _ => false
  | x :: r, n + 1 => isZ .u8 x && zrun r n

theorem zrun_eq : ∀ (l : List Value) (n : Nat), zrun l n = true → l = List.replicate n (.int .u8 0) ++ [.int .i64 0, .int .i64 0, .int .i64 0]
  | [], n, h => by simp [zrun] at h
  | x :: r, 0, h => by
    match r with
    | [] => simp [zrun] at h
    | [_] => simp [zrun] at h
    | [y, z] =>
      simp only [zrun, Bool.and_eq_true] at h
      rw [isZ_eq h.1.1, isZ_eq h.1.2, isZ_eq h.2]
      rfl
    | _ :: _ :: _ :: _ => simp [zrun] at h
  | x :: r, n + 1, h => by
    simp only [zrun, Bool.and_eq_true] at h
    rw [isZ_eq h.1, zrun_eq r n h.2, List.replicate_succ]
    rfl

def zall : List Value → Bool
  | x :: y :: r => isZ .i64 x && isZ .u8 y && zrun r 16384
  | _ => false

def zcells : Option Value → List Value
  | some (.agg a) => a.toList
  | _ => []

/-- A cutter's cells. -/
def cutRow (m st : Int) (H Z : List Value) (cnt ll cl : Int) : List Value := .int .i64 m :: .int .u8 st :: (H ++ Z ++ [.int .i64 cnt, .int .i64 ll, .int .i64 cl])

/-- What a new cutter's array holds. -/
noncomputable def Zs : List Value := List.replicate 16384 (.int .u8 0)
theorem Zs_length : Zs.length = 16384 := List.length_replicate

theorem zall_eq {l : List Value} (h : zall l = true) : l = cutRow 0 0 [] Zs 0 0 0 := by
  match l with
  | [] => simp [zall] at h
  | [_] => simp [zall] at h
  | x :: y :: r =>
    simp only [zall, Bool.and_eq_true] at h
    rw [isZ_eq h.1.1, isZ_eq h.1.2, zrun_eq r _ h.2]
    rfl

set_option maxRecDepth 100000 in
theorem zero_all : zall (zcells Try.t29.zero) = true := by kernel_rfl

theorem cutRow_length (m st : Int) (H Z : List Value) (cnt ll cl : Int) : (cutRow m st H Z cnt ll cl).length = H.length + Z.length + 5 := by
  simp [cutRow]
  omega

theorem zero_cut : Try.t29.zero = some (.agg (cutRow 0 0 [] Zs 0 0 0).toArray) := by
  have h := zall_eq zero_all
  cases hz : Try.t29.zero with
  | none => rw [hz] at h; exact absurd (congrArg List.length h) (by rw [cutRow_length]; simp [zcells])
  | some v =>
    rw [hz] at h
    cases v with
    | agg a =>
      simp only [zcells] at h
      rw [← h]
    | _ => exact absurd (congrArg List.length h) (by rw [cutRow_length]; simp [zcells])

theorem info_cut : Try.prog.info? 29 = some Try.t29 := by kernel_rfl
theorem size_cut : Try.t29.size = 16389 := by kernel_rfl

theorem places_cut : (match Try.prog.underlying 29 with | some (.struct fs) => fs.toList.mapM (fun f => (Try.prog.info? f.type).map fun i => (f.offset, i.size)) | _ => none) =
    some [(0, 1), (1, 1), (2, 16384), (16386, 1), (16387, 1), (16388, 1)] := by kernel_rfl

theorem built_cut (parts : List (Nat × Value)) : Try.prog.built 29 parts =
    Instr.fill (([(0, 1), (1, 1), (2, 16384), (16386, 1), (16387, 1), (16388, 1)] : List (Nat × Nat)).toArray[·]?) (cutRow 0 0 [] Zs 0 0 0).toArray parts := by
  have hp := places_cut
  unfold Program.built
  rw [Try.underlying29] at hp ⊢
  simp only at hp
  rw [info_cut]
  simp only [zero_cut, hp, Value.cells]

theorem built_most (m : Int) : Try.prog.built 29 [(0, .int .i64 m)] = some (cutRow m 0 [] Zs 0 0 0).toArray := by
  rw [built_cut]
  have hl := cutRow_length 0 0 [] Zs 0 0 0
  generalize Zs = Z at hl ⊢
  simp [Instr.fill, Value.cells, hl]
  simp [cutRow]

theorem built_end (s : Int) : Try.prog.built 29 [(1, .int .u8 s)] = some (cutRow 0 s [] Zs 0 0 0).toArray := by
  rw [built_cut]
  have hl := cutRow_length 0 0 [] Zs 0 0 0
  generalize Zs = Z at hl ⊢
  simp [Instr.fill, Value.cells, hl]
  simp [cutRow]

theorem run_most (w : World) (m : Int) : (Instr.build 29 #[(0, .int .i64 m)]).run Try.prog w = .ok (.agg (cutRow m 0 [] Zs 0 0 0).toArray) w := run_build w _ _ _ (built_most m)
theorem run_end (w : World) (s : Int) : (Instr.build 29 #[(1, .int .u8 s)]).run Try.prog w = .ok (.agg (cutRow 0 s [] Zs 0 0 0).toArray) w := run_build w _ _ _ (built_end s)

/-! ### A cutter in block g -/
def Cut (w : World) (g : Nat) (m st : Int) (H : List UInt8) (cnt ll cl : Int) : Prop :=
  ∃ Z, H.length + Z.length = 16384 ∧ w.heap[g]? = some (.cells (cutRow m st (bys H) Z cnt ll cl).toArray 29 (0, 0))

/-- All but block g is as it was. -/
structure Near (g : Nat) (w w' : World) : Prop where
  os : w'.os = w.os
  tape : w'.tape = w.tape
  output : w'.output = w.output
  size : w.heap.size ≤ w'.heap.size
  block : ∀ k, k < w.heap.size → k ≠ g → w'.heap[k]? = w.heap[k]?

section
variable {w w' w'' : World} {g : Nat} {m st cnt ll cl : Int} {H : List UInt8}

theorem Near.refl (g : Nat) (w : World) : Near g w w := ⟨rfl, rfl, rfl, Nat.le_refl _, fun _ _ _ => rfl⟩
theorem Near.trans (h : Near g w w') (k : Near g w' w'') : Near g w w'' :=
  ⟨k.os.trans h.os, k.tape.trans h.tape, k.output.trans h.output, Nat.le_trans h.size k.size, fun i hi hn => (k.block i (Nat.lt_of_lt_of_le hi h.size) hn).trans (h.block i hi hn)⟩
theorem Near.below (h : Near g w w') {B : Nat} (hg : B ≤ g) (hB : B ≤ w.heap.size) : Below B w w' := ⟨h.os, h.tape, h.output, h.size, fun k hk => h.block k (by omega) (by omega)⟩
theorem Near.of (h : Below w.heap.size w w') : Near g w w' := ⟨h.os, h.tape, h.output, h.size, fun k hk _ => h.block k hk⟩
theorem Near.drew (g : Nat) (w : World) : Near g w w.drew := ⟨rfl, rfl, rfl, Nat.le_refl _, fun _ _ _ => rfl⟩
theorem Near.setCell (g o : Nat) (w : World) (v : Value) : Near g w (w.setCell ⟨g, o, none⟩ v) :=
  ⟨rfl, rfl, rfl, by simp, fun k _ hk => Below.heap_setCell _ _ _ _ hk⟩
theorem Near.setRow (g : Nat) (w : World) (cs : Array Value) : Near g w (w.setRow g cs) :=
  ⟨rfl, rfl, rfl, by simp, fun k _ hk => setRow_other w g k cs hk⟩

theorem Cut.lt (h : Cut w g m st H cnt ll cl) : g < w.heap.size := by
  obtain ⟨Z, _, hg⟩ := h
  exact (Array.getElem?_eq_some_iff.1 hg).1

theorem Cut.below (h : Cut w g m st H cnt ll cl) {B : Nat} (hb : Below B w w') (hB : g < B) : Cut w' g m st H cnt ll cl := by
  obtain ⟨Z, hl, hg⟩ := h
  exact ⟨Z, hl, (hb.block g hB).trans hg⟩
theorem Cut.drew (h : Cut w g m st H cnt ll cl) : Cut w.drew g m st H cnt ll cl := h

theorem Cut.cell (h : Cut w g m st H cnt ll cl) : ∃ Z, H.length + Z.length = 16384 ∧ ∀ j, w.cell? ⟨g, j, none⟩ = (cutRow m st (bys H) Z cnt ll cl)[j]? := by
  obtain ⟨Z, hl, hg⟩ := h
  refine ⟨Z, hl, fun j => ?_⟩
  rw [cell_of_row w g j _ _ _ hg]
  simp

theorem row_tail (m st : Int) (H Z : List Value) (cnt ll cl : Int) (hl : H.length + Z.length = 16384) (j : Nat) :
    (cutRow m st H Z cnt ll cl)[16386 + j]? = ([.int .i64 cnt, .int .i64 ll, .int .i64 cl] : List Value)[j]? := by
  unfold cutRow
  rw [show 16386 + j = (16384 + j) + 1 + 1 by omega, List.getElem?_cons_succ, List.getElem?_cons_succ, List.getElem?_append_right (by simp; omega)]
  congr 1
  simp
  omega

theorem Cut.most (h : Cut w g m st H cnt ll cl) : w.cell? ⟨g, 0, none⟩ = some (.int .i64 m) := by
  obtain ⟨Z, hl, hc⟩ := h.cell
  rw [hc]
  rfl
theorem Cut.state (h : Cut w g m st H cnt ll cl) : w.cell? ⟨g, 1, none⟩ = some (.int .u8 st) := by
  obtain ⟨Z, hl, hc⟩ := h.cell
  rw [hc]
  rfl
theorem Cut.count (h : Cut w g m st H cnt ll cl) : w.cell? ⟨g, 16386, none⟩ = some (.int .i64 cnt) := by
  obtain ⟨Z, hl, hc⟩ := h.cell
  rw [hc, show 16386 = 16386 + 0 from rfl, row_tail _ _ _ _ _ _ _ (by simpa [bys_length] using hl)]
  rfl
theorem Cut.left (h : Cut w g m st H cnt ll cl) : w.cell? ⟨g, 16387, none⟩ = some (.int .i64 ll) := by
  obtain ⟨Z, hl, hc⟩ := h.cell
  rw [hc, show 16387 = 16386 + 1 from rfl, row_tail _ _ _ _ _ _ _ (by simpa [bys_length] using hl)]
  rfl
theorem Cut.want (h : Cut w g m st H cnt ll cl) : w.cell? ⟨g, 16388, none⟩ = some (.int .i64 cl) := by
  obtain ⟨Z, hl, hc⟩ := h.cell
  rw [hc, show 16388 = 16386 + 2 from rfl, row_tail _ _ _ _ _ _ _ (by simpa [bys_length] using hl)]
  rfl
theorem Cut.frozen (h : Cut w g m st H cnt ll cl) (j : Nat) : w.frozen? ⟨g, j, none⟩ = false := by
  obtain ⟨Z, hl, hg⟩ := h
  exact frozen_of_row w g j _ _ hg
theorem Cut.held_le (h : Cut w g m st H cnt ll cl) : H.length ≤ 16384 := by
  obtain ⟨Z, hl, _⟩ := h
  omega
/-- The bytes that wait, as a slice of the array. -/
theorem Cut.held (h : Cut w g m st H cnt ll cl) : Has w (g + 1) 1 (some ⟨g, 2, none⟩) H.length (bys H) := by
  obtain ⟨Z, hl, hc⟩ := h.cell
  refine ⟨by simp [bys_length], .inr ⟨_, rfl, by simp, fun j u hu => ?_⟩⟩
  have hj : j < (bys H).length := (List.getElem?_eq_some_iff.1 hu).1
  rw [show (⟨g, 2, none⟩ : Addr).add j = ⟨g, 2 + j, none⟩ by unfold Addr.add; split <;> simp_all, hc, ← hu]
  unfold cutRow
  rw [show 2 + j = j + 1 + 1 by omega, List.getElem?_cons_succ, List.getElem?_cons_succ, List.append_assoc, List.getElem?_append_left hj]

theorem Cut.set (h : Cut w g m st H cnt ll cl) (j : Nat) (v : Value) {m' st' cnt' ll' cl' : Int}
    (e : ∀ Z, H.length + Z.length = 16384 → (cutRow m st (bys H) Z cnt ll cl).set j v = cutRow m' st' (bys H) Z cnt' ll' cl') : Cut (w.setCell ⟨g, j, none⟩ v) g m' st' H cnt' ll' cl' := by
  obtain ⟨Z, hl, hg⟩ := h
  refine ⟨Z, hl, ?_⟩
  rw [heap_setCell_same w g j _ _ v hg, ← e Z hl]
  simp

theorem set_tail (m st : Int) (H Z : List Value) (cnt ll cl : Int) (hl : H.length + Z.length = 16384) (j : Nat) (v : Value) :
    (cutRow m st H Z cnt ll cl).set (16386 + j) v = .int .i64 m :: .int .u8 st :: (H ++ Z ++ ([.int .i64 cnt, .int .i64 ll, .int .i64 cl] : List Value).set j v) := by
  unfold cutRow
  rw [show 16386 + j = (16384 + j) + 1 + 1 by omega, List.set_cons_succ, List.set_cons_succ, List.set_append_right _ _ (by simp; omega)]
  congr 4
  simp
  omega

theorem Cut.setState (h : Cut w g m st H cnt ll cl) (s : Int) : Cut (w.setCell ⟨g, 1, none⟩ (.int .u8 s)) g m s H cnt ll cl := h.set 1 _ fun _ _ => rfl
theorem Cut.setCount (h : Cut w g m st H cnt ll cl) (s : Int) : Cut (w.setCell ⟨g, 16386, none⟩ (.int .i64 s)) g m st H s ll cl :=
  h.set 16386 _ fun Z hl => set_tail _ _ _ _ _ _ _ (by simpa [bys_length] using hl) 0 _
theorem Cut.setLeft (h : Cut w g m st H cnt ll cl) (s : Int) : Cut (w.setCell ⟨g, 16387, none⟩ (.int .i64 s)) g m st H cnt s cl :=
  h.set 16387 _ fun Z hl => set_tail _ _ _ _ _ _ _ (by simpa [bys_length] using hl) 1 _
theorem Cut.setWant (h : Cut w g m st H cnt ll cl) (s : Int) : Cut (w.setCell ⟨g, 16388, none⟩ (.int .i64 s)) g m st H cnt ll s :=
  h.set 16388 _ fun Z hl => set_tail _ _ _ _ _ _ _ (by simpa [bys_length] using hl) 2 _

/-- Of what waits only the beginning counts. -/
theorem Cut.shorten (h : Cut w g m st H cnt ll cl) (k : Nat) : Cut w g m st (H.take k) cnt ll cl := by
  obtain ⟨Z, hl, hg⟩ := h
  refine ⟨bys (H.drop k) ++ Z, by simp [bys_length]; omega, ?_⟩
  rw [hg]
  unfold cutRow
  rw [← List.append_assoc (bys _) (bys _) Z, ← bys_append, List.take_append_drop]

theorem Cut.laid (w : World) (m st : Int) : Cut (w.alloc (.cells (cutRow m st [] Zs 0 0 0).toArray 29)) w.heap.size m st [] 0 0 0 :=
  ⟨Zs, by rw [Zs_length]; rfl, heap_alloc_last w _⟩
theorem Cut.setRow (h : Cut w g m st H cnt ll cl) (m' st' : Int) : Cut (w.setRow g (cutRow m' st' [] Zs 0 0 0).toArray) g m' st' [] 0 0 0 := by
  obtain ⟨Z, hl, hg⟩ := h
  exact ⟨Zs, by rw [Zs_length]; rfl, setRow_heap w g _ _ _ _ hg⟩

end

end Go.Proofs.Ytgdaangbgmmgmaa.Frame
