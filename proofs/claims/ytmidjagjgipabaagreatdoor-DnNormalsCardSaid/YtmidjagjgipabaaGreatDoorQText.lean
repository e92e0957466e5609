/-
  Texts joined by commas, by the program and by the reference. By an AI agent.
-/
import Derived.Test.YtmidjagjgipabaaGreatDoorQRows
import Derived.Lib.Join
namespace Go.Proofs.YtmidjagjgipabaaGreatDoor
open Go.RowKit
set_option linter.unusedVariables false

theorem join_lib : ∀ T : List (List UInt8), Lib.join T [44] = joinC T
  | [] => rfl
  | [a] => Lib.join_one a [44]
  | a :: b :: r => by
    have ih := join_lib (b :: r)
    rw [Lib.join_cons] at ih ⊢
    rw [joinC, ← ih]
    simp [Lib.joinTail]

theorem join_take (T : List (List UInt8)) (i : Nat) : (joinC (T.take i)).length ≤ (joinC T).length := by
  induction T generalizing i with
  | nil => simp
  | cons a r ih =>
    cases i with
    | zero => simp [joinC]
    | succ i =>
      have h := ih i
      cases r with
      | nil => simp
      | cons b s =>
        cases i with
        | zero => simp only [List.take_succ_cons, List.take_zero, joinC, List.length_append, List.length_cons]; omega
        | succ i =>
          rw [List.take_succ_cons, List.take_succ_cons]
          rw [List.take_succ_cons] at h
          simp only [joinC, List.length_append, List.length_cons] at h ⊢
          omega

theorem join_lens : ∀ (T : List (List UInt8)) (M : Nat), (∀ t ∈ T, t.length ≤ M) → (joinC T).length ≤ (M + 1) * T.length
  | [], M, _ => by simp [joinC]
  | [a], M, h => by have := h a (by simp); simp only [joinC, List.length_singleton]; omega
  | a :: b :: r, M, h => by
    have h1 := h a (by simp)
    have h2 := join_lens (b :: r) M fun t ht => h t (by simp only [List.mem_cons] at ht ⊢; exact Or.inr ht)
    rw [joinC, List.length_append, List.length_cons, List.length_cons, Nat.mul_succ]
    omega

theorem join_any (w : World) (A : Option Addr) (n c : Nat) (T : List (List UInt8)) (h : Has w w.heap.size 1 A n (strs T)) (hc : n ≤ c) (hn : n ≤ 10000) (hl : (joinC T).length ≤ 100000000) :
    Calls Tryz.prog 23 #[.slice A n c, .string ⟨#[44]⟩] w fun e w' => e = .returned (.string (txt (joinC T))) ∧ Below w.heap.size w w' := by
  have hnl := h.strs_n
  by_cases hT : T = []
  · subst hT
    obtain rfl : n = 0 := by simpa using hnl
    refine (Tryz.strings_Join_none A c ⟨#[44]⟩ w).mono ?_
    rintro e w' ⟨rfl, rfl⟩
    exact ⟨rfl, Below.refl _ _⟩
  · obtain ⟨g, o, rfl, hg, hcell⟩ := h.texts hT
    subst hnl
    have hmap : (T.map txt).map (·.data.toList) = T := by
      rw [List.map_map]
      have : ((fun x : ByteArray => x.data.toList) ∘ txt) = id := by funext x; exact txt_toList x
      rw [this, List.map_id]
    have hJ : Lib.join ((T.map txt).map (·.data.toList)) (⟨#[44]⟩ : ByteArray).data.toList = joinC T := by rw [hmap]; exact join_lib T
    have hcon := Tryz.strings_Join g o c (T.map txt) ⟨#[44]⟩ w (fun j x hx => by
      rw [List.getElem?_map] at hx
      cases hj : T[j]? with
      | none => rw [hj] at hx; cases hx
      | some t => rw [hj] at hx; obtain rfl := Option.some.inj hx; exact hcell j t hj) hg (by rw [List.length_map]; omega) (by rw [List.length_map]; exact hc) (by rw [hJ]; omega)
    rw [List.length_map] at hcon
    refine hcon.mono ?_
    rintro e w' ⟨rfl, hb⟩
    refine ⟨?_, hb⟩
    rw [hJ]; rfl

set_option maxRecDepth 100000 in
set_option maxHeartbeats 16000000 in
theorem pjoin_any (w : World) (A : Option Addr) (n c : Nat) (T : List (List UInt8)) (h : Has w w.heap.size 1 A n (strs T)) (hc : n ≤ c) (hn : n ≤ 10000) (hl : (joinC T).length ≤ 100000000) :
    Calls Tryz.prog 12 #[.slice A n c] w fun e w' => e = .returned (.tuple #[.string (txt (fitV T).1), .int .i64 (fitV T).2]) ∧ Below w.heap.size w w' := by
  have hJ := join_any w A n c T h hc hn hl
  have hnl := h.strs_n
  by_cases h12 : 12 < n
  · have hf : fitV T = ([], 4) := by unfold fitV; rw [if_pos (Or.inl (by omega))]
    rw [hf]
    have z1 : ((12 : Int) < (n : Int)) := by omega
    clear hJ hf hnl h hl
    go_enter Tryz.func12, Tryz.ntmps12
    go_wp2
    go_ret2
    exact ⟨rfl, Below.refl _ _⟩
  · have z1 : ¬ ((12 : Int) < (n : Int)) := by omega
    have hsz : (txt (joinC T)).size = (joinC T).length := txt_size _
    by_cases h1 : 1000 < (joinC T).length
    · have hf : fitV T = ([], 4) := by unfold fitV; rw [if_pos (Or.inr h1)]
      rw [hf]
      have z2 : ((1000 : Int) < ((txt (joinC T)).size : Int)) := by omega
      generalize txt (joinC T) = X at *
      clear hf hnl h hl hsz h1
      go_enter Tryz.func12, Tryz.ntmps12
      go_wp2_with (go_at_call 23; fail)
      refine hJ.mono ?_
      rintro e w1 ⟨rfl, hb⟩
      clear hJ
      go_wp2
      go_ret2
      exact ⟨rfl, hb⟩
    · have hf : fitV T = (joinC T, 0) := by unfold fitV; rw [if_neg (by omega)]
      rw [hf]
      have z2 : ¬ ((1000 : Int) < ((txt (joinC T)).size : Int)) := by omega
      simp only
      generalize txt (joinC T) = X at *
      clear hf hnl h hl hsz h1
      go_enter Tryz.func12, Tryz.ntmps12
      go_wp2_with (go_at_call 23; fail)
      refine hJ.mono ?_
      rintro e w1 ⟨rfl, hb⟩
      clear hJ
      go_wp2
      go_ret2
      exact ⟨rfl, hb⟩

set_option maxRecDepth 100000 in
set_option maxHeartbeats 16000000 in
theorem joined_any (w : World) (A : Option Addr) (n c : Nat) (T : List (List UInt8)) (h : Has w w.heap.size 1 A n (strs T)) (hn : n ≤ 10000) (hl : (joinC T).length ≤ 100000000) :
    Calls Tryz.prog 33 #[.slice A n c] w fun e w' => e = .returned (.string (txt (joinC T))) ∧ w' = w := by
  have hnl := h.strs_n
  obtain ⟨RV, hRV⟩ : ∃ RV, txt (joinC T) = RV := ⟨_, rfl⟩
  rw [hRV]
  have HRV := hide hRV
  have HL := hide hnl
  have HH := hide h
  have hst : ∀ i, (txt (joinC (T.take i))).size ≤ 100000000 := fun i => by rw [txt_size]; have := join_take T i; omega
  have HS := hide hst
  clear hRV hnl h hst hl
  go_enter Tryz.func33, Tryz.ntmps33
  go_wp2
  go_loopg [3, 7] n (fun k s3 s7 wx => ∃ (i : Nat) (S : ByteArray), i + k = n ∧ s3 = .string S ∧ s7 = .int .i64 (i : Int) ∧ Hid (S = txt (joinC (T.take i))) ∧ S.size ≤ 100000000 ∧ wx = w)
  case atStart => exact ⟨0, ⟨#[]⟩, by omega, rfl, rfl, hide (by simp [joinC, txt]), by decide, rfl⟩
  case round =>
    obtain ⟨i, S, hig, rfl, rfl, hS, hSz, rfl⟩ := hrel
    cases gk with
    | zero =>
      obtain rfl : i = n := by omega
      have hiz : ¬ ((i : Int) < (i : Int)) := by omega
      have hSR : Hid (S = RV) := hide (by rw [hS.out, ← HRV.out, List.take_of_length_le (by rw [HL.out]; exact Nat.le_refl _)])
      clear hS HL HRV HH HS
      go_wp2
      go_ret
      exact ⟨by rw [← hSR.out]; rfl, rfl⟩
    | succ k =>
      have hi : i < n := by omega
      have hiz : (i : Int) < (n : Int) := by omega
      obtain ⟨t, ht⟩ : ∃ t, T[i]? = some t := ⟨_, List.getElem?_eq_getElem (by rw [← HL.out]; exact hi)⟩
      obtain ⟨g, o, rfl, hg, hcell⟩ := HH.out.texts (fun h => by rw [h] at ht; simp at ht)
      have c0 := hcell i t ht
      have htk : T.take (i + 1) = T.take i ++ [t] := by rw [List.take_add_one, ht]; rfl
      have hz2 := HS.out (i + 1)
      rw [htk, join_snoc] at hz2
      have htl : T.take i = [] ↔ i = 0 := by
        constructor
        · intro h
          have := congrArg List.length h
          rw [List.length_take] at this
          have h2 := HL.out
          simp only [List.length_nil] at this
          omega
        · rintro rfl; rfl
      by_cases hi0 : i = 0
      · subst hi0
        have hz : ¬ ((0 : Int) < ((0 : Nat) : Int)) := by omega
        have hSe := hS.out
        have hnx : Hid (S ++ txt t = txt (joinC (T.take (0 + 1)))) := hide (by
          rw [htk, join_snoc, if_pos (htl.2 rfl), hSe]
          simp only [List.take_zero, joinC]
          rw [txt_app, List.nil_append])
        rw [if_pos (htl.2 rfl)] at hz2
        have c00 : wr.cell? ⟨g, o, none⟩ = some (.string (txt t)) := by simpa using c0
        have hts : (txt t).size ≤ 100000000 := hz2
        have hxs : (S ++ txt t).size ≤ 100000000 := by rw [hnx.out]; exact HS.out 1
        generalize txt t = X at *
        clear hS HL HRV HH HS hcell ht htk hz2 htl hSe
        go_wp2
        go_roundg k
        case measure => omega
        case rel => exact ⟨1, S ++ X, by omega, rfl, by go_num, hnx, hxs, rfl⟩
      · have hz : ((0 : Int) < (i : Int)) := by omega
        have hnx : Hid (S ++ ⟨#[44]⟩ ++ txt t = txt (joinC (T.take (i + 1)))) := hide (by
          rw [htk, join_snoc, if_neg (fun h => hi0 (htl.1 h)), hS.out, show (⟨#[44]⟩ : ByteArray) = txt [44] from rfl, txt_app, txt_app]
          simp)
        rw [if_neg (fun h => hi0 (htl.1 h))] at hz2
        have hts : (txt t).size ≤ 100000000 := by
          rw [txt_size] at hz2 ⊢
          rw [List.length_append, List.length_cons] at hz2
          omega
        have hxs : (S ++ ⟨#[44]⟩ ++ txt t).size ≤ 100000000 := by rw [hnx.out]; exact HS.out (i + 1)
        generalize txt t = X at *
        clear hS HL HRV HH HS hcell ht htk hz2 htl
        go_wp2
        go_roundg k
        case measure => omega
        case rel => exact ⟨i + 1, S ++ ⟨#[44]⟩ ++ X, by omega, rfl, by go_num, hnx, hxs, rfl⟩

end Go.Proofs.YtmidjagjgipabaaGreatDoor
