/-
  The statements' own looks: that the program is awake, and that the arguments are short. By an AI agent.
-/
import Derived.Test.YtedenhfpbabjkaaGreatDoorMC
namespace Go.Proofs.YtedenhfpbabjkaaGreatDoor
open Go.RowKit
set_option linter.unusedVariables false

theorem norm_ann : norm [67, 78] [32, 65, 110, 110, 32, 32, 76, 69, 69, 32] = ([97, 110, 110, 32, 108, 101, 101], 0) := by
  have h1 : (typ [67, 78]).2 = 1 := by decide
  have h2 : nt [32, 65, 110, 110, 32, 32, 76, 69, 69, 32] = [97, 110, 110, 32, 108, 101, 101] := by decide
  have hf : Formed 1 [32, 65, 110, 110, 32, 32, 76, 69, 69, 32] := ⟨fun _ => ⟨by decide, by rw [h2]; decide⟩, fun e => (by omega), fun e => (by omega)⟩
  unfold norm
  rw [h1, if_neg (by omega), if_neg (by omega), if_neg, if_pos rfl, h2]
  rintro (h | h | h)
  · simp at h
  · simp at h
  · exact h hf

set_option maxRecDepth 100000 in
set_option maxHeartbeats 4000000 in
theorem rawake_any (w : World) (hT : TT w) :
    Calls Tryz.prog 6 #[] w fun e w' => e = .returned (.bool true) ∧ Below w.heap.size w w' := by
  have hN := normal_any ⟨#[67, 78]⟩ ⟨#[32, 65, 110, 110, 32, 32, 76, 69, 69, 32]⟩ (by decide) w hT
  rw [show (⟨#[67, 78]⟩ : ByteArray).data.toList = [67, 78] from rfl, show (⟨#[32, 65, 110, 110, 32, 32, 76, 69, 69, 32]⟩ : ByteArray).data.toList = [32, 65, 110, 110, 32, 32, 76, 69, 69, 32] from rfl, norm_ann] at hN
  simp only at hN
  have he : ((txt [97, 110, 110, 32, 108, 101, 101]).toList == [97, 110, 110, 32, 108, 101, 101]) = true := by rw [txt_bytes]; rfl
  generalize txt [97, 110, 110, 32, 108, 101, 101] = X at *
  go_enter Tryz.func6, Tryz.ntmps6
  go_wp2_with (go_at_call 14; fail)
  refine hN.mono ?_
  rintro e w1 ⟨rfl, hb⟩
  go_wp2
  go_ret
  exact ⟨rfl, hb⟩

/-- The texts of an argument list lie in a row. -/
structure Strs (w : World) (g : Nat) (L : List ByteArray) : Prop where
  at_ : ∀ (i : Nat) (s : ByteArray), L[i]? = some s → w.cell? ⟨g, i, none⟩ = some (.string s)

set_option maxRecDepth 100000 in
set_option maxHeartbeats 4000000 in
theorem few_any (g : Nat) (L : List ByteArray) (b : Bool) (hb : b = true ↔ ∀ s ∈ L, s.size ≤ 3000) (hL : L.length ≤ 3) (w : World) (hS : Strs w g L) (N : Nat) (hN : N = L.length) (c : Nat) :
    Calls Tryz.prog 7 #[.slice (some ⟨g, 0, none⟩) N c] w fun e w' => e = .returned (.bool b) ∧ w' = w := by
  have hB := hide hb
  replace hN := hide hN
  have hN3 : N ≤ 3 := by rw [hN.out]; exact hL
  clear hb hL
  go_enter Tryz.func7, Tryz.ntmps7
  go_wp2
  go_loopg [6] N (fun k s6 wx => ∃ i : Nat, i + k = N ∧ s6 = .int .i64 (i : Int) ∧ wx = w ∧ Hid (∀ j s, j < i → L[j]? = some s → s.size ≤ 3000))
  case atStart => exact ⟨0, by omega, rfl, rfl, hide fun j s hj => by omega⟩
  case round =>
    obtain ⟨i, hig, rfl, rfl, hpre⟩ := hrel
    cases gk with
    | zero =>
      obtain rfl : i = N := by omega
      have hiz : ¬ ((i : Int) < (i : Int)) := by omega
      have hb1 : Hid (b = true) := hide (hB.out.2 fun s hs => by
        obtain ⟨j, hj, rfl⟩ := List.mem_iff_getElem.1 hs
        exact hpre.out j _ (by rw [hN.out]; exact hj) (List.getElem?_eq_getElem hj))
      clear hB hpre hS
      go_wp2
      go_ret
      exact ⟨by rw [hb1.out]; rfl, rfl⟩
    | succ k =>
      have hi : i < N := by omega
      have hiz : (i : Int) < (N : Int) := by omega
      obtain ⟨s, hs⟩ : ∃ s, L[i]? = some s := ⟨_, List.getElem?_eq_getElem (by rw [← hN.out]; exact hi)⟩
      have hc := hS.at_ i s hs
      by_cases h3 : (3000 : Int) < (s.size : Int)
      · have hb1 : Hid (b = false) := hide (by
          cases hbb : b with
          | false => rfl
          | true => have := hB.out.1 hbb s (List.mem_of_getElem? hs); omega)
        clear hB hpre hS hs
        go_wp2
        go_ret
        exact ⟨by rw [hb1.out]; rfl, rfl⟩
      · have hpre2 : Hid (∀ j s, j < i + 1 → L[j]? = some s → s.size ≤ 3000) := by
          refine hide fun j t hj hjt => ?_
          by_cases h : j = i
          · subst h
            rw [hs] at hjt
            obtain rfl := Option.some.inj hjt
            omega
          · exact hpre.out j t (by omega) hjt
        clear hB hpre hS hs
        go_wp2
        go_roundg k
        case measure => omega
        case rel => exact ⟨i + 1, by omega, by go_num, rfl, hpre2⟩

end Go.Proofs.YtedenhfpbabjkaaGreatDoor
