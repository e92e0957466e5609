/-
  The statements' own looks: that the program is awake, that the arguments are short. By an AI agent.
-/
import Derived.Test.YtmidjagjgipabaaGreatDoorQFacts
namespace Go.Proofs.YtmidjagjgipabaaGreatDoor
open Go.RowKit
set_option linter.unusedVariables false

theorem name_awake : nameV [67, 78, 61, 65, 110, 110, 44, 68, 67, 61, 88] = (some [[([99, 110], [65, 110, 110])], [([100, 99], [88])]], 0) := by
  have hc : cuts 44 [67, 78, 61, 65, 110, 110, 44, 68, 67, 61, 88] = [[67, 78, 61, 65, 110, 110], [68, 67, 61, 88]] := by decide
  have p1 : parseP [67, 78, 61, 65, 110, 110] = some [([99, 110], [65, 110, 110])] := by
    have h1 : (cuts 43 [67, 78, 61, 65, 110, 110]).length ≤ 3 := by decide
    have h2 : (cuts 43 [67, 78, 61, 65, 110, 110]).mapM rdPairT = some [([99, 110], [65, 110, 110])] := by decide
    have h3 : sortP [([99, 110], [65, 110, 110])] = [([99, 110], [65, 110, 110])] := by decide
    rw [parse_some h1 h2, h3, if_pos]
    refine ⟨by decide, by decide, fun a ha => ?_, by decide⟩
    obtain rfl := List.mem_singleton.1 ha
    exact ⟨by decide, Or.inl (by decide), by rw [norm_word _ _ (by decide) (by decide) (by decide) (by decide)]⟩
  have p2 : parseP [68, 67, 61, 88] = some [([100, 99], [88])] := by
    have h1 : (cuts 43 [68, 67, 61, 88]).length ≤ 3 := by decide
    have h2 : (cuts 43 [68, 67, 61, 88]).mapM rdPairT = some [([100, 99], [88])] := by decide
    have h3 : sortP [([100, 99], [88])] = [([100, 99], [88])] := by decide
    rw [parse_some h1 h2, h3, if_pos]
    refine ⟨by decide, by decide, fun a ha => ?_, by decide⟩
    obtain rfl := List.mem_singleton.1 ha
    exact ⟨by decide, Or.inl (by decide), by rw [norm_word _ _ (by decide) (by decide) (by decide) (by decide)]⟩
  unfold nameV
  rw [if_neg (by decide), if_neg (by decide), hc, if_neg (by decide), mapM_cons', p1, mapM_cons', p2]
  rfl

theorem norm_awake : normT [67, 78, 61, 65, 110, 110, 44, 68, 67, 61, 88] = ([99, 110, 61, 97, 110, 110, 44, 100, 99, 61, 120], 0) := by
  have t1 : ptx [([99, 110], [65, 110, 110])] = [99, 110, 61, 97, 110, 110] := by
    unfold ptx normP
    simp only [List.map_cons, List.map_nil]
    rw [norm_word _ _ (by decide) (by decide) (by decide) (by decide)]
    decide
  have t2 : ptx [([100, 99], [88])] = [100, 99, 61, 120] := by
    unfold ptx normP
    simp only [List.map_cons, List.map_nil]
    rw [norm_word _ _ (by decide) (by decide) (by decide) (by decide)]
    decide
  have hp : partsV [67, 78, 61, 65, 110, 110, 44, 68, 67, 61, 88] = (some [[99, 110, 61, 97, 110, 110], [100, 99, 61, 120]], 0) := by
    unfold partsV
    rw [name_awake]
    simp only [List.map_cons, List.map_nil, t1, t2]
    rw [if_neg (by decide)]
  rw [norm_yes' hp]
  rfl

set_option maxRecDepth 100000 in
set_option maxHeartbeats 16000000 in
theorem awake6_any (w : World) (hT : TM w) :
    Calls Tryz.prog 4 #[] w fun e w' => e = .returned (.bool true) ∧ Below w.heap.size w w' := by
  have hN := pnormal_text [67, 78, 61, 65, 110, 110, 44, 68, 67, 61, 88] (by decide) w hT
  rw [norm_awake, show txt [67, 78, 61, 65, 110, 110, 44, 68, 67, 61, 88] = (⟨#[67, 78, 61, 65, 110, 110, 44, 68, 67, 61, 88]⟩ : ByteArray) from rfl] at hN
  simp only at hN
  have he : ((txt [99, 110, 61, 97, 110, 110, 44, 100, 99, 61, 120]).toList == [99, 110, 61, 97, 110, 110, 44, 100, 99, 61, 120]) = true := by rw [txt_bytes]; rfl
  generalize txt [99, 110, 61, 97, 110, 110, 44, 100, 99, 61, 120] = X at *
  go_enter Tryz.func4, Tryz.ntmps4
  go_wp2_with (go_at_call 6; fail)
  refine hN.mono ?_
  rintro e w1 ⟨rfl, hb⟩
  go_wp2
  go_ret
  exact ⟨rfl, hb⟩

/-- The texts of an argument list lie in a row. -/
structure Strs6 (w : World) (g : Nat) (L : List ByteArray) : Prop where
  at_ : ∀ (i : Nat) (s : ByteArray), L[i]? = some s → w.cell? ⟨g, i, none⟩ = some (.string s)

set_option maxRecDepth 100000 in
set_option maxHeartbeats 4000000 in
theorem few6_any (g : Nat) (L : List ByteArray) (b : Bool) (hb : b = true ↔ ∀ s ∈ L, s.size ≤ 3000) (hL : L.length ≤ 4) (w : World) (hS : Strs6 w g L) (N : Nat) (hN : N = L.length) (c : Nat) :
    Calls Tryz.prog 5 #[.slice (some ⟨g, 0, none⟩) N c] w fun e w' => e = .returned (.bool b) ∧ w' = w := by
  have hB := hide hb
  replace hN := hide hN
  have hN3 : N ≤ 4 := by rw [hN.out]; exact hL
  clear hb hL
  go_enter Tryz.func5, Tryz.ntmps5
  go_wp2
  go_loopg [6] N (fun k s6 wx => ∃ i : Nat, i + k = N ∧ s6 = .int .i64 (i : Int) ∧ wx = w ∧ Hid (∀ j s, j < i → L[j]? = some s → s.size ≤ 3000))
  case atStart => exact ⟨0, by omega, rfl, rfl, hide fun j s hj => by omega⟩
  case round =>
    obtain ⟨i, hig, rfl, rfl, hpre⟩ := hrel
    cases gk with
    | zero =>
      obtain rfl : i = N := by omega
      have hiz : ¬ ((i : Int) < (i : Int)) := by omega
      have hb1 : Hid (b = true) := hide (hB.out.2 fun s hs => by
        obtain ⟨j, hj, rfl⟩ := List.mem_iff_getElem.1 hs
        exact hpre.out j _ (by rw [hN.out]; exact hj) (List.getElem?_eq_getElem hj))
      clear hB hpre hS
      go_wp2
      go_ret
      exact ⟨by rw [hb1.out]; rfl, rfl⟩
    | succ k =>
      have hi : i < N := by omega
      have hiz : (i : Int) < (N : Int) := by omega
      obtain ⟨s, hs⟩ : ∃ s, L[i]? = some s := ⟨_, List.getElem?_eq_getElem (by rw [← hN.out]; exact hi)⟩
      have hc := hS.at_ i s hs
      by_cases h3 : (3000 : Int) < (s.size : Int)
      · have hb1 : Hid (b = false) := hide (by
          cases hbb : b with
          | false => rfl
          | true => have := hB.out.1 hbb s (List.mem_of_getElem? hs); omega)
        clear hB hpre hS hs
        go_wp2
        go_ret
        exact ⟨by rw [hb1.out]; rfl, rfl⟩
      · have hpre2 : Hid (∀ j s, j < i + 1 → L[j]? = some s → s.size ≤ 3000) := by
          refine hide fun j t hj hjt => ?_
          by_cases h : j = i
          · subst h
            rw [hs] at hjt
            obtain rfl := Option.some.inj hjt
            omega
          · exact hpre.out j t (by omega) hjt
        clear hB hpre hS hs
        go_wp2
        go_roundg k
        case measure => omega
        case rel => exact ⟨i + 1, by omega, by go_num, rfl, hpre2⟩

theorem strs6 (w : World) (L : List ByteArray) (t : TypeId) : Strs6 (w.alloc (.cells (L.map Value.string).toArray t)) w.heap.size L := by
  refine ⟨fun i x hx => ?_⟩
  rw [World.cell?_alloc_at (hn := by simp)]
  simp [hx]
theorem strs6_1 (w : World) (s : ByteArray) (t : TypeId) : Strs6 (w.alloc (.cells #[.string s] t)) w.heap.size [s] := strs6 w [s] t
theorem strs6_2 (w : World) (s u : ByteArray) (t : TypeId) : Strs6 (w.alloc (.cells #[.string s, .string u] t)) w.heap.size [s, u] := strs6 w [s, u] t
theorem strs6_3 (w : World) (s u v : ByteArray) (t : TypeId) : Strs6 (w.alloc (.cells #[.string s, .string u, .string v] t)) w.heap.size [s, u, v] := strs6 w [s, u, v] t
theorem strs6_4 (w : World) (s u v x : ByteArray) (t : TypeId) : Strs6 (w.alloc (.cells #[.string s, .string u, .string v, .string x] t)) w.heap.size [s, u, v, x] := strs6 w [s, u, v, x] t

/-- The look at the arguments' lengths. -/
inductive Short6 (L : List ByteArray) : Prop where
  | yes (h : ∀ s ∈ L, s.size ≤ 3000)
  | no (h : ¬ ∀ s ∈ L, s.size ≤ 3000)
theorem short6_or (L : List ByteArray) : Short6 L := by
  by_cases h : ∀ s ∈ L, s.size ≤ 3000
  · exact .yes h
  · exact .no h
theorem as_txt (s : ByteArray) : ∃ l, s = txt l := ⟨s.data.toList, (data_cell s _ rfl)⟩

end Go.Proofs.YtmidjagjgipabaaGreatDoor
