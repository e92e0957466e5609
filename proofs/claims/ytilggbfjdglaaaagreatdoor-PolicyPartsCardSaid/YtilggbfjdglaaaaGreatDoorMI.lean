/-
  Several texts in one: QConcat, QJoin, QMove, QFacts, QFew, QSame, QValue, QPValue. By an AI agent.
-/
import Derived.Test.YtilggbfjdglaaaaGreatDoorMH
import Derived.Lib.AppendZeros
/- slices.Concat of two lists of texts; parts that are joined by the reference if they fit. -/
namespace Go.Proofs.YtilggbfjdglaaaaGreatDoor
open Go.RowKit
set_option linter.unusedVariables false

/-- Two cells of a block. -/
structure Two (w : World) (h : Nat) (u v : Value) : Prop where
  c0 : w.cell? ⟨h, 0, none⟩ = some u
  c1 : w.cell? ⟨h, 1, none⟩ = some v
  lt : h < w.heap.size
theorem Two.new (w : World) (u v : Value) (e : TypeId) : Two (w.alloc (.cells #[u, v] e)) w.heap.size u v :=
  ⟨by rw [World.cell?_alloc_at (hn := by simp)]; rfl, by rw [World.cell?_alloc_at (hn := by simp)]; rfl, by simp⟩
theorem Two.below {w w' : World} {h : Nat} {u v : Value} (t : Two w h u v) (hb : Below w.heap.size w w') : Two w' h u v :=
  ⟨(hb.cell (p := ⟨h, 0, none⟩) t.lt).trans t.c0, (hb.cell (p := ⟨h, 1, none⟩) t.lt).trans t.c1, Nat.lt_of_lt_of_le t.lt hb.size⟩

end Go.Proofs.YtilggbfjdglaaaaGreatDoor

/- Join of a part and a name, by the program and by the reference. -/
namespace Go.Proofs.YtilggbfjdglaaaaGreatDoor
open Go.RowKit
set_option linter.unusedVariables false

/-- A part ahead of a name. -/
noncomputable def joinV (l m : List UInt8) : List UInt8 × Int := match parseP l with
  | none => ([], 2)
  | some p => match partsV m with
    | (none, e) => ([], e)
    | (some T, _) => fitV (ptx p :: T)
theorem join_none {l m : List UInt8} (h : parseP l = none) : joinV l m = ([], 2) := by unfold joinV; rw [h]
theorem join_err {l m : List UInt8} {p : List P2} {e : Int} (h : parseP l = some p) (h' : partsV m = (none, e)) : joinV l m = ([], e) := by unfold joinV; rw [h]; simp only; rw [h']
theorem join_fit {l m : List UInt8} {p : List P2} {T : List (List UInt8)} (h : parseP l = some p) (h' : partsV m = (some T, 0)) : joinV l m = fitV (ptx p :: T) := by unfold joinV; rw [h]; simp only; rw [h']

theorem cons_sum {p : List P2} (hp : PartOk p) {T : List (List UInt8)} (h : TextsOk T) : (joinC (ptx p :: T)).length ≤ 100000000 := by
  have h1 := ptx_len hp
  have h2 := h.len
  cases T with
  | nil => simp only [joinC]; omega
  | cons a r => rw [joinC, List.length_append, List.length_cons]; omega

end Go.Proofs.YtilggbfjdglaaaaGreatDoor

/- Move of a name, by the program and by the reference. -/
namespace Go.Proofs.YtilggbfjdglaaaaGreatDoor
open Go.RowKit
set_option linter.unusedVariables false

/-- A name that is moved. -/
noncomputable def moveV (l f t : List UInt8) : List UInt8 × Int := match partsV l with
  | (none, e) => ([], e)
  | (some S, _) => match partsV f with
    | (none, e) => ([], e)
    | (some F, _) => match partsV t with
      | (none, e) => ([], e)
      | (some Z, _) => if undB S F = true then fitV (S.take (S.length - F.length) ++ Z) else ([], 1)
theorem move_1 {l f t : List UInt8} {e : Int} (h : partsV l = (none, e)) : moveV l f t = ([], e) := by unfold moveV; rw [h]
theorem move_2 {l f t : List UInt8} {S : List (List UInt8)} {e : Int} (h : partsV l = (some S, 0)) (h2 : partsV f = (none, e)) : moveV l f t = ([], e) := by unfold moveV; rw [h]; simp only; rw [h2]
theorem move_3 {l f t : List UInt8} {S F : List (List UInt8)} {e : Int} (h : partsV l = (some S, 0)) (h2 : partsV f = (some F, 0)) (h3 : partsV t = (none, e)) : moveV l f t = ([], e) := by unfold moveV; rw [h]; simp only; rw [h2]; simp only; rw [h3]
theorem move_4 {l f t : List UInt8} {S F Z : List (List UInt8)} (h : partsV l = (some S, 0)) (h2 : partsV f = (some F, 0)) (h3 : partsV t = (some Z, 0)) : moveV l f t = if undB S F = true then fitV (S.take (S.length - F.length) ++ Z) else ([], 1) := by unfold moveV; rw [h]; simp only; rw [h2]; simp only; rw [h3]

theorem NT.len {t : List UInt8} (h : NT t) : t.length ≤ 2103 := by
  obtain ⟨p, hp, hn, rfl⟩ := h
  have := ptx_len hp
  unfold ptx at this
  rwa [hn] at this
theorem app_sum {S Z : List (List UInt8)} (hS : TextsOk S) (hZ : TextsOk Z) (k : Nat) : (joinC (S.take k ++ Z)).length ≤ 100000000 := by
  have h := join_lens (S.take k ++ Z) 2103 fun t ht => by
    rcases List.mem_append.1 ht with ht | ht
    · exact (hS.each t (List.mem_of_mem_take ht)).len
    · exact (hZ.each t ht).len
  have h1 := hS.le
  have h2 := hZ.le
  rw [List.length_append, List.length_take] at h
  have h3 : min k S.length + Z.length ≤ 24 := by omega
  have h4 := Nat.mul_le_mul_left 2104 h3
  omega

end Go.Proofs.YtilggbfjdglaaaaGreatDoor

/- What the statements of layer 6 ask of names: of no program but in its words. -/
namespace Go.Proofs.YtilggbfjdglaaaaGreatDoor
set_option linter.unusedVariables false

/-- What a move that went tells. -/
structure Moved (l f t x : List UInt8) : Prop where
  len : x.length ≤ 1000
  back : moveV x t f = ((normT l).1, 0)
  und : underV x t = true
  deep : (depthV x : Int) - (depthV t : Int) = (depthV l : Int) - (depthV f : Int)
  d1 : depthV x ≤ 12
  d2 : depthV t ≤ 12
  d3 : depthV l ≤ 12
  d4 : depthV f ≤ 12
theorem move_cases (l f t : List UInt8) : (∃ x, moveV l f t = (x, 0) ∧ Moved l f t x) ∨ ((moveV l f t).2 == 0) = false := by
  cases rkey l with
  | no y e1 e2 h => rw [move_1 h]; exact Or.inr e1
  | ok S ho h =>
    cases rkey f with
    | no y e1 e2 h2 => rw [move_2 h h2]; exact Or.inr e1
    | ok F ho2 h2 =>
      cases rkey t with
      | no y e1 e2 h3 => rw [move_3 h h2 h3]; exact Or.inr e1
      | ok Z ho3 h3 =>
        rw [move_4 h h2 h3]
        by_cases hu : undB S F = true
        · rw [if_pos hu]
          obtain ⟨R, hR⟩ : ∃ R, S.take (S.length - F.length) ++ Z = R := ⟨_, rfl⟩
          rw [hR]
          rcases fit_err R with h0 | h0
          · refine Or.inl ⟨joinC R, ?_, ?_⟩
            · obtain ⟨_, _, h1⟩ := fit_ok (T := R) (t := (fitV R).1) (Prod.ext rfl h0)
              exact Prod.ext h1.symm h0
            · obtain ⟨h1, h2', _⟩ := fit_ok (T := R) (t := (fitV R).1) (Prod.ext rfl h0)
              have hRo : TextsOk R := ⟨h1, h2', fun u hu' => by
                rw [← hR] at hu'
                rcases List.mem_append.1 hu' with hm | hm
                · exact ho.each u (List.mem_of_mem_take hm)
                · exact ho3.each u hm⟩
              have hpx := parts_join hRo
              have hle := (und_yes hu).1
              have hlen : (S.take (S.length - F.length)).length = S.length - F.length := by rw [List.length_take]; omega
              have hRl : R.length = S.length - F.length + Z.length := by rw [← hR, List.length_append, hlen]
              have hdx : depthV (joinC R) = R.length := by unfold depthV; rw [hpx]; rfl
              have hdt : depthV t = Z.length := by unfold depthV; rw [h3]; rfl
              have hdl : depthV l = S.length := by unfold depthV; rw [h]; rfl
              have hdf : depthV f = F.length := by unfold depthV; rw [h2]; rfl
              have hRZ : undB R Z = true := by rw [← hR]; exact und_app _ _
              refine ⟨hRo.len, ?_, ?_, ?_, by rw [hdx]; exact h1, by rw [hdt]; exact ho3.le, by rw [hdl]; exact ho.le, by rw [hdf]; exact ho2.le⟩
              · rw [move_4 hpx h3 h2, if_pos hRZ]
                have e1 : R.take (R.length - Z.length) = S.take (S.length - F.length) := by
                  rw [hRl, Nat.add_sub_cancel, ← hR, List.take_left' hlen]
                rw [e1, und_take hu, fit_yes ho, norm_yes' h]
              · unfold underV
                rw [hpx, h3]
                exact hRZ
              · rw [hdx, hdt, hdl, hdf, hRl]
                omega
          · rw [h0]; exact Or.inr rfl
        · rw [if_neg hu]; exact Or.inr rfl

/-- What a join that went tells. -/
structure Joined (m x : List UInt8) : Prop where
  len : x.length ≤ 1000
  par : parentV x = ((normT m).1, true)
theorem join_cases (l m : List UInt8) : (∃ x, joinV l m = (x, 0) ∧ Joined m x) ∨ ((joinV l m).2 == 0) = false := by
  cases hp : parseP l with
  | none => rw [join_none hp]; exact Or.inr rfl
  | some p =>
    have hok := parse_ok hp
    cases rkey m with
    | no y e1 e2 h => rw [join_err hp h]; exact Or.inr e1
    | ok T ho h =>
      rw [join_fit hp h]
      rcases fit_err (ptx p :: T) with h0 | h0
      · obtain ⟨h1, h2, h3⟩ := fit_ok (T := ptx p :: T) (t := (fitV (ptx p :: T)).1) (Prod.ext rfl h0)
        have hRo : TextsOk (ptx p :: T) := ⟨h1, h2, fun u hu => by
          rcases List.mem_cons.1 hu with rfl | hm
          · exact nt_ptx hok
          · exact ho.each u hm⟩
        refine Or.inl ⟨joinC (ptx p :: T), Prod.ext h3.symm h0, hRo.len, ?_⟩
        unfold parentV
        rw [parts_join hRo, norm_yes' h]
      · rw [h0]; exact Or.inr rfl

/-- What a name with a first part tells. -/
structure Above (l p : List UInt8) : Prop where
  len : p.length ≤ 1000
  und : underV l p = true
  deep : depthV p + 1 = depthV l
  le : depthV l ≤ 12
theorem parent_cases (l : List UInt8) : (∃ p, parentV l = (p, true) ∧ Above l p) ∨ parentV l = ([], false) := by
  cases rkey l with
  | no y e1 e2 h => exact Or.inr (by unfold parentV; rw [h])
  | ok T ho h =>
    cases T with
    | nil => exact Or.inr (by unfold parentV; rw [h])
    | cons t T =>
      have h2 := parts_join ho.tail
      refine Or.inl ⟨joinC T, by unfold parentV; rw [h], ho.tail.len, ?_, ?_, ?_⟩
      · unfold underV
        rw [h, h2]
        exact und_app [t] T
      · unfold depthV
        rw [h, h2]
        rfl
      · unfold depthV
        rw [h]
        exact ho.le
theorem depth_le (l : List UInt8) : depthV l ≤ 12 := by
  unfold depthV
  cases rkey l with
  | no y e1 e2 h => rw [h]; simp
  | ok T ho h => rw [h]; exact ho.le

theorem comp_vals (l m : List UInt8) : compV l m = -1 ∨ compV l m = 0 ∨ compV l m = 1 := by
  unfold compV
  split
  · exact cmp_vals _ _
  · exact Or.inr (Or.inl rfl)
theorem comp_neg (l m : List UInt8) : compV m l = - compV l m := by
  unfold compV
  cases (partsV l).1 with
  | none => cases (partsV m).1 <;> rfl
  | some T =>
    cases (partsV m).1 with
    | none => rfl
    | some U => exact cmp_neg _ _
theorem comp_und {l m : List UInt8} (h : underV l m = true) : 0 ≤ compV l m := by
  unfold underV at h
  unfold compV
  cases hl : (partsV l).1 with
  | none => rw [hl] at h; cases h
  | some T =>
    cases hm : (partsV m).1 with
    | none => rw [hl, hm] at h; cases h
    | some U =>
      rw [hl, hm] at h
      exact und_cmp h
/-- Of three names the order goes through. -/
theorem comp_thru (l m n : List UInt8) : ((normT l).2 == 0) = false ∨ (((normT l).2 == 0) = true ∧ ((normT m).2 == 0) = false) ∨ (((normT l).2 == 0) = true ∧ ((normT m).2 == 0) = true ∧ ((normT n).2 == 0) = false) ∨
    (((normT l).2 == 0) = true ∧ ((normT m).2 == 0) = true ∧ ((normT n).2 == 0) = true ∧ (0 < compV l m ∨ (¬ 0 < compV l m ∧ 0 < compV m n) ∨ (¬ 0 < compV l m ∧ ¬ 0 < compV m n ∧ compV l n ≤ 0))) := by
  cases rkey l with
  | no y e1 e2 h => rw [norm_no' h]; exact Or.inl e1
  | ok T ho h =>
    cases rkey m with
    | no y e1 e2 h2 => rw [norm_yes' h, norm_no' h2]; exact Or.inr (Or.inl ⟨rfl, e1⟩)
    | ok U ho2 h2 =>
      cases rkey n with
      | no y e1 e2 h3 => rw [norm_yes' h, norm_yes' h2, norm_no' h3]; exact Or.inr (Or.inr (Or.inl ⟨rfl, rfl, e1⟩))
      | ok V ho3 h3 =>
        rw [norm_yes' h, norm_yes' h2, norm_yes' h3]
        refine Or.inr (Or.inr (Or.inr ⟨rfl, rfl, rfl, ?_⟩))
        have e1 : compV l m = cmpL T.reverse U.reverse := by unfold compV; rw [h, h2]
        have e2 : compV m n = cmpL U.reverse V.reverse := by unfold compV; rw [h2, h3]
        have e3 : compV l n = cmpL T.reverse V.reverse := by unfold compV; rw [h, h3]
        rw [e1, e2, e3]
        by_cases a : 0 < cmpL T.reverse U.reverse
        · exact Or.inl a
        · by_cases b : 0 < cmpL U.reverse V.reverse
          · exact Or.inr (Or.inl ⟨a, b⟩)
          · exact Or.inr (Or.inr ⟨a, b, cmp_thru T.reverse U.reverse V.reverse (by omega) (by omega)⟩)

/-- A normal text is its own; two names are under one another just if they have one. -/
theorem norm_again {l : List UInt8} (h : (normT l).2 = 0) : normT (normT l).1 = normT l ∧ (normT l).1.length ≤ 1000 := by
  cases pt l with
  | no e he h' => rw [norm_no' h'] at h; simp only at h; omega
  | ok T ho h' =>
    rw [norm_yes' h']
    exact ⟨norm_yes' (parts_join ho), ho.len⟩
theorem both_und {l m : List UInt8} (h : (normT l).2 = 0) : (underV l m && underV m l) = (((normT m).2 == 0) && ((normT l).1 == (normT m).1)) := by
  cases pt l with
  | no e he h' => rw [norm_no' h'] at h; simp only at h; omega
  | ok T ho h' =>
    cases pt m with
    | no e he h2 =>
      rw [norm_no' h2, (err_ne' he)]
      unfold underV
      rw [h', h2]
      rfl
    | ok U ho2 h2 =>
      rw [norm_yes' h2, norm_yes' h']
      unfold underV
      rw [h', h2]
      simp only
      by_cases e : T = U
      · subst e
        rw [und_self]; simp
      · have h1 : (undB T U && undB U T) = false := by
          cases a : undB T U with
          | false => rfl
          | true =>
            cases b : undB U T with
            | false => rfl
            | true => exact absurd (und_eq a b) e
        have h3 : (joinC T == joinC U) = false := beq_false_of_ne fun h => e (join_inj ho ho2 h)
        rw [h1, h3]; rfl
where
  err_ne' {e : Int} (h : e = 2 ∨ e = 4) : (e == 0) = false := by rcases h with rfl | rfl <;> rfl

end Go.Proofs.YtilggbfjdglaaaaGreatDoor

/- The statements' own looks: that the program is awake, that the arguments are short. -/
namespace Go.Proofs.YtilggbfjdglaaaaGreatDoor
open Go.RowKit
set_option linter.unusedVariables false

theorem name_awake : nameV [67, 78, 61, 65, 110, 110, 44, 68, 67, 61, 88] = (some [[([99, 110], [65, 110, 110])], [([100, 99], [88])]], 0) := by
  have hc : cuts 44 [67, 78, 61, 65, 110, 110, 44, 68, 67, 61, 88] = [[67, 78, 61, 65, 110, 110], [68, 67, 61, 88]] := by decide
  have p1 : parseP [67, 78, 61, 65, 110, 110] = some [([99, 110], [65, 110, 110])] := by
    have h1 : (cuts 43 [67, 78, 61, 65, 110, 110]).length ≤ 3 := by decide
    have h2 : (cuts 43 [67, 78, 61, 65, 110, 110]).mapM rdPairT = some [([99, 110], [65, 110, 110])] := by decide
    have h3 : sortP [([99, 110], [65, 110, 110])] = [([99, 110], [65, 110, 110])] := by decide
    rw [parse_some h1 h2, h3, if_pos]
    refine ⟨by decide, by decide, fun a ha => ?_, by decide⟩
    obtain rfl := List.mem_singleton.1 ha
    exact ⟨by decide, Or.inl (by decide), by rw [norm_word _ _ (by decide) (by decide) (by decide) (by decide)]⟩
  have p2 : parseP [68, 67, 61, 88] = some [([100, 99], [88])] := by
    have h1 : (cuts 43 [68, 67, 61, 88]).length ≤ 3 := by decide
    have h2 : (cuts 43 [68, 67, 61, 88]).mapM rdPairT = some [([100, 99], [88])] := by decide
    have h3 : sortP [([100, 99], [88])] = [([100, 99], [88])] := by decide
    rw [parse_some h1 h2, h3, if_pos]
    refine ⟨by decide, by decide, fun a ha => ?_, by decide⟩
    obtain rfl := List.mem_singleton.1 ha
    exact ⟨by decide, Or.inl (by decide), by rw [norm_word _ _ (by decide) (by decide) (by decide) (by decide)]⟩
  unfold nameV
  rw [if_neg (by decide), if_neg (by decide), hc, if_neg (by decide), mapM_cons', p1, mapM_cons', p2]
  rfl

theorem norm_awake : normT [67, 78, 61, 65, 110, 110, 44, 68, 67, 61, 88] = ([99, 110, 61, 97, 110, 110, 44, 100, 99, 61, 120], 0) := by
  have t1 : ptx [([99, 110], [65, 110, 110])] = [99, 110, 61, 97, 110, 110] := by
    unfold ptx normP
    simp only [List.map_cons, List.map_nil]
    rw [norm_word _ _ (by decide) (by decide) (by decide) (by decide)]
    decide
  have t2 : ptx [([100, 99], [88])] = [100, 99, 61, 120] := by
    unfold ptx normP
    simp only [List.map_cons, List.map_nil]
    rw [norm_word _ _ (by decide) (by decide) (by decide) (by decide)]
    decide
  have hp : partsV [67, 78, 61, 65, 110, 110, 44, 68, 67, 61, 88] = (some [[99, 110, 61, 97, 110, 110], [100, 99, 61, 120]], 0) := by
    unfold partsV
    rw [name_awake]
    simp only [List.map_cons, List.map_nil, t1, t2]
    rw [if_neg (by decide)]
  rw [norm_yes' hp]
  rfl

/-- The texts of an argument list lie in a row. -/
structure Strs6 (w : World) (g : Nat) (L : List ByteArray) : Prop where
  at_ : ∀ (i : Nat) (s : ByteArray), L[i]? = some s → w.cell? ⟨g, i, none⟩ = some (.string s)

theorem strs6 (w : World) (L : List ByteArray) (t : TypeId) : Strs6 (w.alloc (.cells (L.map Value.string).toArray t)) w.heap.size L := by
  refine ⟨fun i x hx => ?_⟩
  rw [World.cell?_alloc_at (hn := by simp)]
  simp [hx]
theorem strs6_1 (w : World) (s : ByteArray) (t : TypeId) : Strs6 (w.alloc (.cells #[.string s] t)) w.heap.size [s] := strs6 w [s] t
theorem strs6_2 (w : World) (s u : ByteArray) (t : TypeId) : Strs6 (w.alloc (.cells #[.string s, .string u] t)) w.heap.size [s, u] := strs6 w [s, u] t
theorem strs6_3 (w : World) (s u v : ByteArray) (t : TypeId) : Strs6 (w.alloc (.cells #[.string s, .string u, .string v] t)) w.heap.size [s, u, v] := strs6 w [s, u, v] t
theorem strs6_4 (w : World) (s u v x : ByteArray) (t : TypeId) : Strs6 (w.alloc (.cells #[.string s, .string u, .string v, .string x] t)) w.heap.size [s, u, v, x] := strs6 w [s, u, v, x] t

/-- The look at the arguments' lengths. -/
inductive Short6 (L : List ByteArray) : Prop where
  | yes (h : ∀ s ∈ L, s.size ≤ 3000)
  | no (h : ¬ ∀ s ∈ L, s.size ≤ 3000)
theorem short6_or (L : List ByteArray) : Short6 L := by
  by_cases h : ∀ s ∈ L, s.size ≤ 3000
  · exact .yes h
  · exact .no h
theorem as_txt (s : ByteArray) : ∃ l, s = txt l := ⟨s.data.toList, (data_cell s _ rfl)⟩

end Go.Proofs.YtilggbfjdglaaaaGreatDoor

/- The statement's own look: whether a name's parts are those of a list. -/
namespace Go.Proofs.YtilggbfjdglaaaaGreatDoor
open Go.RowKit
set_option linter.unusedVariables false

theorem Has.slot {w : World} {B n i : Nat} {A : Option Addr} {vs : List Value} {v : Value} (h : Has w B 1 A n vs) (hv : vs[i]? = some v) : ∃ g o, A = some ⟨g, o, none⟩ ∧ g < B ∧ w.cell? ⟨g, o + i, none⟩ = some v := by
  obtain ⟨g, o, rfl, hg, hc⟩ := h.lies (by have := (List.getElem?_eq_some_iff.1 hv).1; omega)
  exact ⟨g, o, rfl, hg, hc i v hv⟩

end Go.Proofs.YtilggbfjdglaaaaGreatDoor

/- A value of any type, by the reference and by the program. -/
namespace Go.Proofs.YtilggbfjdglaaaaGreatDoor
open Go.RowKit
set_option linter.unusedVariables false

/-- A value's normal form, of syntax 5 too. -/
noncomputable def valV (n v : List UInt8) : List UInt8 × Int :=
  if (typ n).2 ≠ 5 then norm n v
  else if v.length < 1 ∨ 200 < v.length then ([], 2)
  else if (normT v).2 = 0 then normT v
  else ([], 2)

/-- The ways in which a value is taken. -/
inductive Vway (n v : List UInt8) : Prop where
  | other (h : ((typ n).2 == 5) = false) (e : valV n v = norm n v)
  | short (h : ((typ n).2 == 5) = true) (hv : v.length < 1) (e : valV n v = ([], 2))
  | long (h : ((typ n).2 == 5) = true) (hv : 1 ≤ v.length) (hw : 200 < v.length) (e : valV n v = ([], 2))
  | none (h : ((typ n).2 == 5) = true) (hv : 1 ≤ v.length) (hw : v.length ≤ 200) (hn : ((normT v).2 == 0) = false) (e : valV n v = ([], 2))
  | name (h : ((typ n).2 == 5) = true) (hv : 1 ≤ v.length) (hw : v.length ≤ 200) (x : List UInt8) (hn : normT v = (x, 0)) (e : valV n v = (x, 0))
theorem vway (n v : List UInt8) : Vway n v := by
  by_cases h : (typ n).2 = 5
  · have hb : ((typ n).2 == 5) = true := by rw [h]; rfl
    by_cases h1 : v.length < 1
    · exact .short hb h1 (by unfold valV; rw [if_neg (by simp [h]), if_pos (Or.inl h1)])
    · by_cases h2 : 200 < v.length
      · exact .long hb (by omega) h2 (by unfold valV; rw [if_neg (by simp [h]), if_pos (Or.inr h2)])
      · by_cases h3 : (normT v).2 = 0
        · have e : normT v = ((normT v).1, 0) := Prod.ext rfl h3
          exact .name hb (by omega) (by omega) (normT v).1 e (by unfold valV; rw [if_neg (by simp [h]), if_neg (by omega), if_pos h3]; exact e)
        · exact .none hb (by omega) (by omega) (beq_false_of_ne h3) (by unfold valV; rw [if_neg (by simp [h]), if_neg (by omega), if_neg h3])
  · exact .other (beq_false_of_ne h) (by unfold valV; rw [if_pos h])

end Go.Proofs.YtilggbfjdglaaaaGreatDoor

/- A value of any type, by the program. -/
namespace Go.Proofs.YtilggbfjdglaaaaGreatDoor
open Go.RowKit
set_option linter.unusedVariables false

end Go.Proofs.YtilggbfjdglaaaaGreatDoor
