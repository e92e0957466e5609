/-
  Move of a name, by the program and by the reference. By an AI agent.
-/
import Derived.Test.YtmidjagjgipabaaGreatDoorQJoin
namespace Go.Proofs.YtmidjagjgipabaaGreatDoor
open Go.RowKit
set_option linter.unusedVariables false

/-- A name that is moved. -/
noncomputable def moveV (l f t : List UInt8) : List UInt8 × Int := match partsV l with
  | (none, e) => ([], e)
  | (some S, _) => match partsV f with
    | (none, e) => ([], e)
    | (some F, _) => match partsV t with
      | (none, e) => ([], e)
      | (some Z, _) => if undB S F = true then fitV (S.take (S.length - F.length) ++ Z) else ([], 1)
theorem move_1 {l f t : List UInt8} {e : Int} (h : partsV l = (none, e)) : moveV l f t = ([], e) := by unfold moveV; rw [h]
theorem move_2 {l f t : List UInt8} {S : List (List UInt8)} {e : Int} (h : partsV l = (some S, 0)) (h2 : partsV f = (none, e)) : moveV l f t = ([], e) := by unfold moveV; rw [h]; simp only; rw [h2]
theorem move_3 {l f t : List UInt8} {S F : List (List UInt8)} {e : Int} (h : partsV l = (some S, 0)) (h2 : partsV f = (some F, 0)) (h3 : partsV t = (none, e)) : moveV l f t = ([], e) := by unfold moveV; rw [h]; simp only; rw [h2]; simp only; rw [h3]
theorem move_4 {l f t : List UInt8} {S F Z : List (List UInt8)} (h : partsV l = (some S, 0)) (h2 : partsV f = (some F, 0)) (h3 : partsV t = (some Z, 0)) : moveV l f t = if undB S F = true then fitV (S.take (S.length - F.length) ++ Z) else ([], 1) := by unfold moveV; rw [h]; simp only; rw [h2]; simp only; rw [h3]

theorem NT.len {t : List UInt8} (h : NT t) : t.length ≤ 2103 := by
  obtain ⟨p, hp, hn, rfl⟩ := h
  have := ptx_len hp
  unfold ptx at this
  rwa [hn] at this
theorem app_sum {S Z : List (List UInt8)} (hS : TextsOk S) (hZ : TextsOk Z) (k : Nat) : (joinC (S.take k ++ Z)).length ≤ 100000000 := by
  have h := join_lens (S.take k ++ Z) 2103 fun t ht => by
    rcases List.mem_append.1 ht with ht | ht
    · exact (hS.each t (List.mem_of_mem_take ht)).len
    · exact (hZ.each t ht).len
  have h1 := hS.le
  have h2 := hZ.le
  rw [List.length_append, List.length_take] at h
  have h3 : min k S.length + Z.length ≤ 24 := by omega
  have h4 := Nat.mul_le_mul_left 2104 h3
  omega

end Go.Proofs.YtmidjagjgipabaaGreatDoor
