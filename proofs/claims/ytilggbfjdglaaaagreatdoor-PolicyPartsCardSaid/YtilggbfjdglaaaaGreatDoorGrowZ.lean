/-
  A region that draws its order, some of whose operations (those of which Z holds) may write what was there: what reads only may be taken first if each of those waits for it or has come up; what yields in whatever world, always. After XGrowL. By an AI agent.
-/
import Derived.Test.YtilggbfjdglaaaaGreatDoorGrowL
namespace Go.Proofs.YtilggbfjdglaaaaGreatDoor
open Go Go.RowKit

/-- All that may write waits for number i, or has come up. -/
def waitZ (md : Region.Mode) (ops : Array Oper) (Z : List Nat) (listed : Array Bool) (i : Nat) : Bool := Z.all fun z => listed.getD z false || waitsOn md ops z i

section
variable {P : Program} {ops : Array Oper} {Q : Exit → Act → World → Prop} {md : Region.Mode} {Z : List Nat}
variable {R : World → World → Prop} [Way R]

/-- Whatever order is picked from here on, each operation but those of Z goes R's way. -/
def wpAnyZ (R : World → World → Prop) (P : Program) (md : Region.Mode) (ops : Array Oper) (Q : Exit → Act → World → Prop) (Z : List Nat) : Nat → Array Bool → Act → World → Prop
  | 0, listed, a, w => Region.ready md ops listed = [] ∧ Q .normal a w
  | fuel + 1, listed, a, w =>
    (Region.ready md ops listed = [] → Q .normal a w) ∧
    ∀ i ∈ Region.ready md ops listed, wpOp P ops Q i (fun a' w' => (i ∉ Z → R w w') ∧ wpAnyZ R P md ops Q Z fuel (listed.setIfInBounds i true) a' w') a w

omit [Way R] in
theorem wpAny_of_growZ : ∀ (fuel : Nat) (listed : Array Bool) (a : Act) (w : World), wpAnyZ R P md ops Q Z fuel listed a w → wpAny P md ops Q fuel listed a w
  | 0, _, _, _, h => h
  | fuel + 1, _, _, _, h => ⟨h.1, fun i hi => wpOp_mono (fun a' w' h' => wpAny_of_growZ fuel _ a' w' h'.2) (h.2 i hi)⟩

theorem grow_firstZ {S : World → World → Prop} (hS0 : ∀ w, S w w) {i : Nat} {oi : Oper} {v : Value} (hi : ops[i]? = some oi) (hsel : ∀ (j : Nat) (o : Oper) cs b, ops[j]? = some o → o.op ≠ .select cs b)
    (hQ : ∀ c a w, Q (.panic c) (a.put oi.dst v) w → Q (.panic c) a w) :
    ∀ (fuel : Nat) (listed : Array Bool) (a : Act) (w : World),
      ((∀ w w' W, S w' W → S w W) ∨ ((∀ w w' W, R w w' → S w' W → S w W) ∧ waitZ md ops Z listed i = true)) →
      (∀ j oj, ops[j]? = some oj → j ≠ i → listed.getD j true = false → (∀ e ∈ oj.after, Region.binds md e = true → e.on ≠ i) → oi.apart ops oj = true) →
      i ∈ Region.ready md ops listed → YieldsIf P ops (S w) oi v a →
      wpAnyZ R P md ops Q Z fuel (listed.setIfInBounds i true) (a.put oi.dst v) w → wpAnyZ R P md ops Q Z (fuel + 1) listed a w := by
  intro fuel
  induction fuel with
  | zero =>
    intro listed a w _ _ hr hy H
    refine ⟨fun h => (by rw [h] at hr; cases hr), fun j hj => ?_⟩
    rcases Nat.decEq j i with hne | rfl
    · have hm := ready_mono hj hne
      rw [H.1] at hm
      cases hm
    · exact hy.wpOp hi (hS0 w) ⟨fun _ => Way.refl w, H⟩
  | succ fuel ih =>
    intro listed a w hS hfree hr hy H
    refine ⟨fun h => (by rw [h] at hr; cases hr), fun j hj => ?_⟩
    rcases Nat.decEq j i with hne | rfl
    · obtain ⟨hun, oj, hoj, hwait⟩ := mem_ready.1 hj
      have hno : ∀ e ∈ oj.after, Region.binds md e = true → e.on ≠ i := by
        intro e he hb hon
        have h1 := hwait e he hb
        have h0 := (mem_ready.1 hr).1
        rw [hon] at h1
        rcases Nat.lt_or_ge i listed.size with hlt | hge
        · simp [hlt] at h0 h1
          rw [h0] at h1
          cases h1
        · simp [Array.getElem?_eq_none hge] at h1
      have hjl : listed.getD j false = false := by
        rcases Nat.lt_or_ge j listed.size with hlt | hge
        · simp [hlt] at hun ⊢; exact hun
        · simp [Array.getElem?_eq_none hge]
      have hstep := wpOp_putIf hoj (hfree j oj hoj hne hun hno) (fun cs b => hsel i oi cs b hi) (fun cs b => hsel j oj cs b hoj) hQ hy (H.2 j (ready_mono hj hne))
      refine wpOp_mono (fun a' w' hh => ⟨hh.2.1, ih (listed.setIfInBounds j true) a' w' ?_ ?_ (ready_mono hr (Ne.symm hne)) ?_ ?_⟩) hstep
      · rcases hS with hS | ⟨hS, hw⟩
        · exact .inl hS
        · refine .inr ⟨hS, ?_⟩
          unfold waitZ at hw ⊢
          rw [List.all_eq_true] at hw ⊢
          intro z hz
          have := hw z hz
          simp only [Bool.or_eq_true] at this ⊢
          rcases this with h | h
          · left
            rcases Nat.decEq j z with hjz | rfl
            · simp only [Array.getD_eq_getD_getElem?, Array.getElem?_setIfInBounds] at h ⊢
              rw [if_neg hjz]; exact h
            · rw [h] at hjl; cases hjl
          · exact .inr h
      · intro k ok hk hki hkun hkno
        refine hfree k ok hk hki ?_ hkno
        rcases Nat.decEq j k with hjk | rfl
        · rwa [getD_set_ne true hjk] at hkun
        · exact hun
      · refine hh.1.imp (fun ⟨x, y⟩ => ⟨x, fun W hW => y W ?_⟩) id
        rcases hS with hS | ⟨hS, hw⟩
        · exact hS _ _ _ hW
        · refine hS _ _ _ (hh.2.1 fun hz => ?_) hW
          unfold waitZ at hw
          rw [List.all_eq_true] at hw
          have := hw j hz
          rw [hjl, Bool.false_or] at this
          obtain ⟨e, he, hb, hon⟩ := waitsOn_spec this oj hoj
          exact hno e he hb hon
      · rw [Array.setIfInBounds_comm _ _ hne]
        exact hh.2.2
    · exact hy.wpOp hi (hS0 w) ⟨fun _ => Way.refl w, H⟩

/-- Take number i first: it may come up, and yields v in every world that has gone R's way; all that may write waits for it. -/
theorem grow_takeZ (i : Nat) (d : Option Tmp) {oi : Oper} {v : Value} {fuel : Nat} {listed : Array Bool} {a : Act} {w : World} (hi : ops[i]? = some oi) (hd : oi.dst = d)
    (hs : Region.noSelect ops = true) (hf : Region.free md ops listed i = true) (hr : (Region.ready md ops listed).contains i = true)
    (hQ : ∀ c a w, Q (.panic c) (a.put d v) w → Q (.panic c) a w) (hz : waitZ md ops Z listed i = true) (hw : Region.wanted oi (yielded ops a.tmps) = true) (hy : ∀ W, R w W → (execOp a.eval oi).run P W = .ok (.value v) W)
    (h : wpAnyZ R P md ops Q Z fuel (listed.setIfInBounds i true) (a.put d v) w) : wpAnyZ R P md ops Q Z (fuel + 1) listed a w := by
  subst hd
  exact grow_firstZ (S := R) Way.refl hi (Region.noSelect_spec hs) hQ fuel listed a w (.inr ⟨fun _ _ _ h k => Way.trans h k, hz⟩) (Region.free_spec hi hf) (by simpa using hr) (.inl ⟨hw, hy⟩) h

/-- The same of what yields in whatever world. -/
theorem grow_takeP (i : Nat) (d : Option Tmp) {oi : Oper} {v : Value} {fuel : Nat} {listed : Array Bool} {a : Act} {w : World} (hi : ops[i]? = some oi) (hd : oi.dst = d)
    (hs : Region.noSelect ops = true) (hf : Region.free md ops listed i = true) (hr : (Region.ready md ops listed).contains i = true)
    (hQ : ∀ c a w, Q (.panic c) (a.put d v) w → Q (.panic c) a w) (hw : Region.wanted oi (yielded ops a.tmps) = true) (hy : ∀ W, (execOp a.eval oi).run P W = .ok (.value v) W)
    (h : wpAnyZ R P md ops Q Z fuel (listed.setIfInBounds i true) (a.put d v) w) : wpAnyZ R P md ops Q Z (fuel + 1) listed a w := by
  subst hd
  exact grow_firstZ (S := fun _ _ => True) (fun _ => trivial) hi (Region.noSelect_spec hs) hQ fuel listed a w (.inl fun _ _ _ _ => trivial) (Region.free_spec hi hf) (by simpa using hr) (.inl ⟨hw, fun W _ => hy W⟩) h

/-- Number i is behind a guard that is false. -/
theorem grow_skipZ (i : Nat) (d : Option Tmp) {oi : Oper} {fuel : Nat} {listed : Array Bool} {a : Act} {w : World} (hi : ops[i]? = some oi) (hd : oi.dst = d)
    (hs : Region.noSelect ops = true) (hf : Region.free md ops listed i = true) (hr : (Region.ready md ops listed).contains i = true)
    (hQ : ∀ c a w, Q (.panic c) (a.put d undef) w → Q (.panic c) a w) (hw : Region.wanted oi (yielded ops a.tmps) = false)
    (h : wpAnyZ R P md ops Q Z fuel (listed.setIfInBounds i true) (a.put d undef) w) : wpAnyZ R P md ops Q Z (fuel + 1) listed a w := by
  subst hd
  exact grow_firstZ (S := fun _ _ => True) (fun _ => trivial) hi (Region.noSelect_spec hs) hQ fuel listed a w (.inl fun _ _ _ _ => trivial) (Region.free_spec hi hf) (by simpa using hr) (.inr ⟨hw, rfl⟩) h

omit [Way R] in
/-- Nothing but number i may come up. -/
theorem grow_onlyZ (i : Nat) {oi : Oper} {fuel : Nat} {listed : Array Bool} {a : Act} {w : World} (hi : ops[i]? = some oi) (hr : Region.ready md ops listed = [i])
    (h : ∀ K' : Act → World → Prop, Shut (∀ a' w', (i ∉ Z → R w w') → wpAnyZ R P md ops Q Z fuel (listed.setIfInBounds i true) a' w' → K' a' w') → if Region.wanted oi (yielded ops a.tmps) = true then Oper.wp P oi a w K' Q else K' (a.put oi.dst undef) w) :
    wpAnyZ R P md ops Q Z (fuel + 1) listed a w := by
  refine ⟨fun h0 => (by rw [hr] at h0; cases h0), fun j hj => ?_⟩
  rw [hr] at hj
  obtain rfl : j = i := by simpa using hj
  exact wpOp_step hi (fun K' hK => h K' (fun a' w' hb hg => hK a' w' ⟨hb, hg⟩))

omit [Way R] in
theorem grow_doneZ {listed : Array Bool} {a : Act} {w : World} (hr : Region.ready md ops listed = []) (h : Q .normal a w) :
    ∀ fuel, wpAnyZ R P md ops Q Z fuel listed a w
  | 0 => ⟨hr, h⟩
  | _ + 1 => ⟨fun _ => h, by rw [hr]; simp⟩

/-- Each of the operations rs may come up. -/
def AllZ (R : World → World → Prop) (P : Program) (md : Region.Mode) (ops : Array Oper) (Q : Exit → Act → World → Prop) (Z : List Nat) (fuel : Nat) (listed : Array Bool) (a : Act) (w : World) (rs : List Nat) : Prop :=
  ∀ i ∈ rs, wpOp P ops Q i (fun a' w' => (i ∉ Z → R w w') ∧ wpAnyZ R P md ops Q Z fuel (listed.setIfInBounds i true) a' w') a w

omit [Way R] in
theorem AllZ.nil {fuel : Nat} {listed : Array Bool} {a : Act} {w : World} : AllZ R P md ops Q Z fuel listed a w [] := fun _ h => by cases h

omit [Way R] in
theorem AllZ.cons {fuel : Nat} {listed : Array Bool} {a : Act} {w : World} {i : Nat} {oi : Oper} {rs : List Nat} (hi : ops[i]? = some oi)
    (h : ∀ K' : Act → World → Prop, Shut (∀ a' w', (i ∉ Z → R w w') → wpAnyZ R P md ops Q Z fuel (listed.setIfInBounds i true) a' w' → K' a' w') → if Region.wanted oi (yielded ops a.tmps) = true then Oper.wp P oi a w K' Q else K' (a.put oi.dst undef) w)
    (hs : AllZ R P md ops Q Z fuel listed a w rs) : AllZ R P md ops Q Z fuel listed a w (i :: rs) := fun j hj => by
  rcases List.mem_cons.1 hj with rfl | hj
  · exact wpOp_step hi (fun K' hK => h K' (fun a' w' hb hg => hK a' w' ⟨hb, hg⟩))
  · exact hs j hj

omit [Way R] in
/-- Several may come up: each in its turn. -/
theorem grow_eachZ (rs : List Nat) {fuel : Nat} {listed : Array Bool} {a : Act} {w : World} (hr : Region.ready md ops listed = rs) (hne : rs ≠ []) (h : AllZ R P md ops Q Z fuel listed a w rs) :
    wpAnyZ R P md ops Q Z (fuel + 1) listed a w := by
  refine ⟨fun h0 => absurd (hr ▸ h0) hne, fun j hj => ?_⟩
  rw [hr] at hj
  exact h j hj

theorem grow_beginZ (R : World → World → Prop) [Way R] (Z : List Nat) {id : Nat} {a : Act} {w : World} (hm : P.follows .mixedOrders = true)
    (h : wpAnyZ R P .any ops Q Z ops.size (Array.replicate ops.size false) a w.drew) : (Code.region id ops true).wp P Q a w :=
  wp_region_any hm (wpAny_of_growZ _ _ _ _ h)
end

end Go.Proofs.YtilggbfjdglaaaaGreatDoor
