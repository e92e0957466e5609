/-
  What the statements of layer 6 ask of names: of no program but in its words. By an AI agent.
-/
import Derived.Test.YtmidjagjgipabaaGreatDoorQMove
namespace Go.Proofs.YtmidjagjgipabaaGreatDoor
set_option linter.unusedVariables false

/-- What a move that went tells. -/
structure Moved (l f t x : List UInt8) : Prop where
  len : x.length ≤ 1000
  back : moveV x t f = ((normT l).1, 0)
  und : underV x t = true
  deep : (depthV x : Int) - (depthV t : Int) = (depthV l : Int) - (depthV f : Int)
  d1 : depthV x ≤ 12
  d2 : depthV t ≤ 12
  d3 : depthV l ≤ 12
  d4 : depthV f ≤ 12
theorem move_cases (l f t : List UInt8) : (∃ x, moveV l f t = (x, 0) ∧ Moved l f t x) ∨ ((moveV l f t).2 == 0) = false := by
  cases rkey l with
  | no y e1 e2 h => rw [move_1 h]; exact Or.inr e1
  | ok S ho h =>
    cases rkey f with
    | no y e1 e2 h2 => rw [move_2 h h2]; exact Or.inr e1
    | ok F ho2 h2 =>
      cases rkey t with
      | no y e1 e2 h3 => rw [move_3 h h2 h3]; exact Or.inr e1
      | ok Z ho3 h3 =>
        rw [move_4 h h2 h3]
        by_cases hu : undB S F = true
        · rw [if_pos hu]
          obtain ⟨R, hR⟩ : ∃ R, S.take (S.length - F.length) ++ Z = R := ⟨_, rfl⟩
          rw [hR]
          rcases fit_err R with h0 | h0
          · refine Or.inl ⟨joinC R, ?_, ?_⟩
            · obtain ⟨_, _, h1⟩ := fit_ok (T := R) (t := (fitV R).1) (Prod.ext rfl h0)
              exact Prod.ext h1.symm h0
            · obtain ⟨h1, h2', _⟩ := fit_ok (T := R) (t := (fitV R).1) (Prod.ext rfl h0)
              have hRo : TextsOk R := ⟨h1, h2', fun u hu' => by
                rw [← hR] at hu'
                rcases List.mem_append.1 hu' with hm | hm
                · exact ho.each u (List.mem_of_mem_take hm)
                · exact ho3.each u hm⟩
              have hpx := parts_join hRo
              have hle := (und_yes hu).1
              have hlen : (S.take (S.length - F.length)).length = S.length - F.length := by rw [List.length_take]; omega
              have hRl : R.length = S.length - F.length + Z.length := by rw [← hR, List.length_append, hlen]
              have hdx : depthV (joinC R) = R.length := by unfold depthV; rw [hpx]; rfl
              have hdt : depthV t = Z.length := by unfold depthV; rw [h3]; rfl
              have hdl : depthV l = S.length := by unfold depthV; rw [h]; rfl
              have hdf : depthV f = F.length := by unfold depthV; rw [h2]; rfl
              have hRZ : undB R Z = true := by rw [← hR]; exact und_app _ _
              refine ⟨hRo.len, ?_, ?_, ?_, by rw [hdx]; exact h1, by rw [hdt]; exact ho3.le, by rw [hdl]; exact ho.le, by rw [hdf]; exact ho2.le⟩
              · rw [move_4 hpx h3 h2, if_pos hRZ]
                have e1 : R.take (R.length - Z.length) = S.take (S.length - F.length) := by
                  rw [hRl, Nat.add_sub_cancel, ← hR, List.take_left' hlen]
                rw [e1, und_take hu, fit_yes ho, norm_yes' h]
              · unfold underV
                rw [hpx, h3]
                exact hRZ
              · rw [hdx, hdt, hdl, hdf, hRl]
                omega
          · rw [h0]; exact Or.inr rfl
        · rw [if_neg hu]; exact Or.inr rfl

/-- What a join that went tells. -/
structure Joined (m x : List UInt8) : Prop where
  len : x.length ≤ 1000
  par : parentV x = ((normT m).1, true)
theorem join_cases (l m : List UInt8) : (∃ x, joinV l m = (x, 0) ∧ Joined m x) ∨ ((joinV l m).2 == 0) = false := by
  cases hp : parseP l with
  | none => rw [join_none hp]; exact Or.inr rfl
  | some p =>
    have hok := parse_ok hp
    cases rkey m with
    | no y e1 e2 h => rw [join_err hp h]; exact Or.inr e1
    | ok T ho h =>
      rw [join_fit hp h]
      rcases fit_err (ptx p :: T) with h0 | h0
      · obtain ⟨h1, h2, h3⟩ := fit_ok (T := ptx p :: T) (t := (fitV (ptx p :: T)).1) (Prod.ext rfl h0)
        have hRo : TextsOk (ptx p :: T) := ⟨h1, h2, fun u hu => by
          rcases List.mem_cons.1 hu with rfl | hm
          · exact nt_ptx hok
          · exact ho.each u hm⟩
        refine Or.inl ⟨joinC (ptx p :: T), Prod.ext h3.symm h0, hRo.len, ?_⟩
        unfold parentV
        rw [parts_join hRo, norm_yes' h]
      · rw [h0]; exact Or.inr rfl

/-- What a name with a first part tells. -/
structure Above (l p : List UInt8) : Prop where
  len : p.length ≤ 1000
  und : underV l p = true
  deep : depthV p + 1 = depthV l
  le : depthV l ≤ 12
theorem parent_cases (l : List UInt8) : (∃ p, parentV l = (p, true) ∧ Above l p) ∨ parentV l = ([], false) := by
  cases rkey l with
  | no y e1 e2 h => exact Or.inr (by unfold parentV; rw [h])
  | ok T ho h =>
    cases T with
    | nil => exact Or.inr (by unfold parentV; rw [h])
    | cons t T =>
      have h2 := parts_join ho.tail
      refine Or.inl ⟨joinC T, by unfold parentV; rw [h], ho.tail.len, ?_, ?_, ?_⟩
      · unfold underV
        rw [h, h2]
        exact und_app [t] T
      · unfold depthV
        rw [h, h2]
        rfl
      · unfold depthV
        rw [h]
        exact ho.le
theorem depth_le (l : List UInt8) : depthV l ≤ 12 := by
  unfold depthV
  cases rkey l with
  | no y e1 e2 h => rw [h]; simp
  | ok T ho h => rw [h]; exact ho.le

theorem comp_vals (l m : List UInt8) : compV l m = -1 ∨ compV l m = 0 ∨ compV l m = 1 := by
  unfold compV
  split
  · exact cmp_vals _ _
  · exact Or.inr (Or.inl rfl)
theorem comp_neg (l m : List UInt8) : compV m l = - compV l m := by
  unfold compV
  cases (partsV l).1 with
  | none => cases (partsV m).1 <;> rfl
  | some T =>
    cases (partsV m).1 with
    | none => rfl
    | some U => exact cmp_neg _ _
theorem comp_und {l m : List UInt8} (h : underV l m = true) : 0 ≤ compV l m := by
  unfold underV at h
  unfold compV
  cases hl : (partsV l).1 with
  | none => rw [hl] at h; cases h
  | some T =>
    cases hm : (partsV m).1 with
    | none => rw [hl, hm] at h; cases h
    | some U =>
      rw [hl, hm] at h
      exact und_cmp h
/-- Of three names the order goes through. -/
theorem comp_thru (l m n : List UInt8) : ((normT l).2 == 0) = false ∨ (((normT l).2 == 0) = true ∧ ((normT m).2 == 0) = false) ∨ (((normT l).2 == 0) = true ∧ ((normT m).2 == 0) = true ∧ ((normT n).2 == 0) = false) ∨
    (((normT l).2 == 0) = true ∧ ((normT m).2 == 0) = true ∧ ((normT n).2 == 0) = true ∧ (0 < compV l m ∨ (¬ 0 < compV l m ∧ 0 < compV m n) ∨ (¬ 0 < compV l m ∧ ¬ 0 < compV m n ∧ compV l n ≤ 0))) := by
  cases rkey l with
  | no y e1 e2 h => rw [norm_no' h]; exact Or.inl e1
  | ok T ho h =>
    cases rkey m with
    | no y e1 e2 h2 => rw [norm_yes' h, norm_no' h2]; exact Or.inr (Or.inl ⟨rfl, e1⟩)
    | ok U ho2 h2 =>
      cases rkey n with
      | no y e1 e2 h3 => rw [norm_yes' h, norm_yes' h2, norm_no' h3]; exact Or.inr (Or.inr (Or.inl ⟨rfl, rfl, e1⟩))
      | ok V ho3 h3 =>
        rw [norm_yes' h, norm_yes' h2, norm_yes' h3]
        refine Or.inr (Or.inr (Or.inr ⟨rfl, rfl, rfl, ?_⟩))
        have e1 : compV l m = cmpL T.reverse U.reverse := by unfold compV; rw [h, h2]
        have e2 : compV m n = cmpL U.reverse V.reverse := by unfold compV; rw [h2, h3]
        have e3 : compV l n = cmpL T.reverse V.reverse := by unfold compV; rw [h, h3]
        rw [e1, e2, e3]
        by_cases a : 0 < cmpL T.reverse U.reverse
        · exact Or.inl a
        · by_cases b : 0 < cmpL U.reverse V.reverse
          · exact Or.inr (Or.inl ⟨a, b⟩)
          · exact Or.inr (Or.inr ⟨a, b, cmp_thru T.reverse U.reverse V.reverse (by omega) (by omega)⟩)

/-- A normal text is its own; two names are under one another just if they have one. -/
theorem norm_again {l : List UInt8} (h : (normT l).2 = 0) : normT (normT l).1 = normT l ∧ (normT l).1.length ≤ 1000 := by
  cases pt l with
  | no e he h' => rw [norm_no' h'] at h; simp only at h; omega
  | ok T ho h' =>
    rw [norm_yes' h']
    exact ⟨norm_yes' (parts_join ho), ho.len⟩
theorem both_und {l m : List UInt8} (h : (normT l).2 = 0) : (underV l m && underV m l) = (((normT m).2 == 0) && ((normT l).1 == (normT m).1)) := by
  cases pt l with
  | no e he h' => rw [norm_no' h'] at h; simp only at h; omega
  | ok T ho h' =>
    cases pt m with
    | no e he h2 =>
      rw [norm_no' h2, (err_ne' he)]
      unfold underV
      rw [h', h2]
      rfl
    | ok U ho2 h2 =>
      rw [norm_yes' h2, norm_yes' h']
      unfold underV
      rw [h', h2]
      simp only
      by_cases e : T = U
      · subst e
        rw [und_self]; simp
      · have h1 : (undB T U && undB U T) = false := by
          cases a : undB T U with
          | false => rfl
          | true =>
            cases b : undB U T with
            | false => rfl
            | true => exact absurd (und_eq a b) e
        have h3 : (joinC T == joinC U) = false := beq_false_of_ne fun h => e (join_inj ho ho2 h)
        rw [h1, h3]; rfl
where
  err_ne' {e : Int} (h : e = 2 ∨ e = 4) : (e == 0) = false := by rcases h with rfl | rfl <;> rfl

end Go.Proofs.YtmidjagjgipabaaGreatDoor
