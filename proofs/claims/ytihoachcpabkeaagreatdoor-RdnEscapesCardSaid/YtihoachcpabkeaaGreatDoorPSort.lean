/-
  slices.SortFunc at three pairs at most; the order that it makes. By an AI agent.
-/
import Derived.Test.YtihoachcpabkeaaGreatDoorPFormA
import Derived.Test.YtihoachcpabkeaaGreatDoorPRows
import Derived.Shelf.SlSortCmp.SmallK
namespace Go.Proofs.YtihoachcpabkeaaGreatDoor
open Go.RowKit Go.Sort
set_option linter.unusedVariables false

theorem ins2 (lt : P2 → P2 → Bool) (a b : P2) : (Sort.insertionSort lt #[a, b] 0 2).toList = if lt b a then [b, a] else [a, b] := by
  cases h : lt b a <;> simp [Sort.insertionSort, Sort.insOuter, Sort.insInner, h, Sort.swp]
theorem ins3 (lt : P2 → P2 → Bool) (a b c : P2) : (Sort.insertionSort lt #[a, b, c] 0 3).toList =
    if lt b a then (if lt c a then (if lt c b then [c, b, a] else [b, c, a]) else [b, a, c]) else (if lt c b then (if lt c a then [c, a, b] else [a, c, b]) else [a, b, c]) := by
  cases h : lt b a <;> cases h2 : lt c a <;> cases h3 : lt c b <;> simp [Sort.insertionSort, Sort.insOuter, Sort.insInner, h, h2, h3, Sort.swp]

theorem inner_size (lt : P2 → P2 → Bool) (a : Nat) : ∀ (j : Nat) (d : Array P2), (Sort.insInner lt a j d).size = d.size
  | 0, d => rfl
  | j + 1, d => by
    unfold Sort.insInner
    split
    · rw [inner_size lt a j]; simp [Sort.swp]
    · rfl
theorem outer_size (lt : P2 → P2 → Bool) (a b : Nat) : ∀ (n i : Nat) (d : Array P2), b - i ≤ n → (Sort.insOuter lt a b i d).size = d.size := by
  intro n
  induction n with
  | zero => intro i d h; rw [Sort.insOuter, if_neg (by omega)]
  | succ n ih =>
    intro i d h
    rw [Sort.insOuter]
    split
    · rw [ih (i + 1) _ (by omega), inner_size]
    · rfl
theorem ins_size (lt : P2 → P2 → Bool) (d : Array P2) (a b : Nat) : (Sort.insertionSort lt d a b).size = d.size := outer_size lt a b _ _ d (Nat.le_refl _)

/-- What the program's look at two pairs tells. -/
def cfP (x y : P2) : Int := Lib.compareBytes x.1 y.1
theorem bytesCmp : ∀ (x y : List UInt8), Lib.compareBytes x y = if Op.bytesLess x y then -1 else if Op.bytesLess y x then 1 else 0
  | [], [] => by simp [Lib.compareBytes, Op.bytesLess]
  | [], _ :: _ => by simp [Lib.compareBytes, Op.bytesLess]
  | _ :: _, [] => by simp [Lib.compareBytes, Op.bytesLess]
  | a :: x, b :: y => by
    have ih := bytesCmp x y
    unfold Lib.compareBytes Op.bytesLess
    by_cases h1 : a < b
    · simp [h1]
    · by_cases h2 : b < a
      · have : a ≠ b := by rintro rfl; exact h1 h2
        simp [h1, h2, this]
      · have hl : ∀ {x y : UInt8}, x < y ↔ x.toNat < y.toNat := Iff.rfl
        obtain rfl : a = b := u8_ext (by rw [hl] at h1 h2; omega)
        simp [h1, ih]
theorem lt_cfP (x y : P2) : ltOf cfP x y = decide (x.1 < y.1) := by
  unfold ltOf cfP
  rw [bytesCmp, bytesLess_eq, bytesLess_eq]
  by_cases h : x.1 < y.1
  · simp [h]
  · by_cases h2 : y.1 < x.1 <;> simp [h, h2]

/-- The program's order. -/
def goSort (l : List P2) : List P2 := (Sort.insertionSort (ltOf cfP) l.toArray 0 l.toArray.size).toList

theorem sorts_same {l : List P2} (h0 : 1 ≤ l.length) (h3 : l.length ≤ 3) (h : (goSort l).Pairwise (fun x y => x.1 < y.1) ∨ (sortP l).Pairwise (fun x y => x.1 < y.1)) : goSort l = sortP l := by
  have asy : ∀ {x y : List UInt8}, x < y → ¬ y < x := fun {x y} h1 h2 => List.lt_irrefl x (List.lt_trans h1 h2)
  match l, h0, h3, h with
  | [a], _, _, _ => simp [goSort, Sort.insertionSort, Sort.insOuter, sortP, insP]
  | [a, b], _, _, h =>
    have e : goSort [a, b] = _ := ins2 (ltOf cfP) a b
    rw [e] at h ⊢
    rw [lt_cfP] at h ⊢
    simp only [sortP, insP, List.foldl_cons, List.foldl_nil, List.takeWhile_nil, List.dropWhile_nil, List.nil_append] at h ⊢
    by_cases h1 : a.1 < b.1
    · have := asy h1
      simp [h1, this]
    · by_cases h2 : b.1 < a.1
      · simp [h1, h2]
      · simp [h1, h2] at h
  | [a, b, c], _, _, h =>
    have e : goSort [a, b, c] = _ := ins3 (ltOf cfP) a b c
    rw [e] at h ⊢
    rw [lt_cfP, lt_cfP, lt_cfP] at h ⊢
    simp only [sortP, insP, List.foldl_cons, List.foldl_nil, List.takeWhile_nil, List.dropWhile_nil, List.nil_append] at h ⊢
    by_cases ab : a.1 < b.1 <;> by_cases ba : b.1 < a.1 <;> by_cases bc : b.1 < c.1 <;> by_cases cb : c.1 < b.1 <;> by_cases ac : a.1 < c.1 <;> by_cases ca : c.1 < a.1
    all_goals first
      | exact absurd ba (asy ab)
      | exact absurd cb (asy bc)
      | exact absurd ca (asy ac)
      | exact absurd (List.lt_trans ab bc) ac
      | exact absurd (List.lt_trans cb ba) ca
      | (simp [ab, ba, bc, cb, ac, ca]; done)
      | (simp [ab, ba, bc, cb, ac, ca] at h; done)
      | skip

/-- A pair's cells. -/
def encP (a : P2) : List Value := [.string (txt a.1), .string (txt a.2)]
theorem encP_len (a : P2) : (encP a).length = 2 := rfl
theorem encP_one (a : P2) : ∀ v ∈ encP a, v.oneCell' = true := by
  intro v hv
  simp only [encP, List.mem_cons, List.not_mem_nil, or_false] at hv
  rcases hv with rfl | rfl <;> rfl

theorem prs_flat (l : List P2) (t : Nat) (ht : t < l.length * 2) : (prs l)[t]? = some ((flatK encP 2 l.toArray)[t]!) := by
  rw [get_flatK encP 2 l.toArray t (by simpa using ht)]
  have hi : t / 2 < l.length := by omega
  have ha : l[t / 2]? = some l[t / 2] := List.getElem?_eq_getElem hi
  have hb : l.toArray[t / 2]! = l[t / 2] := by simp [hi]
  obtain ⟨h1, h2⟩ := prs_at l (t / 2) _ ha
  rw [hb]
  rcases Nat.mod_two_eq_zero_or_one t with h | h
  · rw [h]
    have e : t / 2 * 2 = t := by omega
    rw [e] at h1
    exact h1
  · rw [h]
    have e : t / 2 * 2 + 1 = t := by omega
    rw [e] at h2
    exact h2

theorem holds_own {w : World} {base g n cap : Nat} {l : List P2} (h : w.ownsRow base 43 2 (.slice (some ⟨g, 0, none⟩) n cap) n (prs l)) : HoldsK encP 2 w g 0 l.toArray := by
  have hn := h.1
  rw [prs_length] at hn
  rcases h.2 with ⟨h0, _⟩ | ⟨g', cap', cur, hv, _, hh, _, _, hsz, _⟩
  · cases h0
  · simp only [Value.slice.injEq, Option.some.injEq, Addr.mk.injEq] at hv
    obtain ⟨⟨rfl, _⟩, _⟩ := hv
    intro j hj
    rw [size_flatK] at hj
    simp only [List.size_toArray] at hj
    have hc := h.cellAt j (by omega)
    have hf := prs_flat l j hj
    refine ⟨?_, ?_⟩
    · rw [Nat.zero_add, hc, hf]; rfl
    · simp [World.frozen?, hh]

theorem has_holds {w : World} {g : Nat} {l : List P2} (hg : g < w.heap.size) (h : HoldsK encP 2 w g 0 l.toArray) : Has w w.heap.size 2 (some ⟨g, 0, none⟩) l.length (prs l) := by
  refine ⟨prs_length l, .inr ⟨_, rfl, hg, fun j u hu => ?_⟩⟩
  have hj : j < l.length * 2 := by
    have := (List.getElem?_eq_some_iff.1 hu).1
    rwa [prs_length] at this
  have h1 := (h j (by rw [size_flatK]; simpa using hj)).1
  have hf := prs_flat l j hj
  rw [hu] at hf
  obtain rfl := Option.some.inj hf
  rw [Nat.zero_add] at h1
  have e : (⟨g, 0, none⟩ : Addr).add j = ⟨g, j, none⟩ := by unfold Addr.add; split <;> simp_all
  rw [e]
  exact h1

set_option maxHeartbeats 4000000 in
theorem closure_any (x y : P2) (W : World) : Calls Tryz.prog 29 #[.agg #[.string (txt x.1), .string (txt x.2)], .agg #[.string (txt y.1), .string (txt y.2)]] W fun e w' => e = .returned (.int .i64 (cfP x y)) ∧ ∃ q os', w' = grow (W.drewN q) os' := by
  have hC := fun w => Tryz.strings_Compare (txt x.1) (txt y.1) w
  simp only [txt_toList] at hC
  unfold cfP
  generalize Lib.compareBytes x.1 y.1 = r at *
  generalize txt x.1 = X1 at *
  generalize txt x.2 = X2 at *
  generalize txt y.1 = Y1 at *
  generalize txt y.2 = Y2 at *
  go_enter Tryz.func29, Tryz.ntmps29
  go_wp2_with (go_at_call 30; refine (hC _).mono ?_; rintro e w' ⟨rfl, rfl⟩)
  go_ret
  exact ⟨rfl, 0, _, by rw [alloc_eq_grow, alloc_eq_grow, grow_grow]; rfl⟩

theorem below_sort {base : Nat} (w : World) (g n : Nat) (d : Array P2) (os : Array Obj) (hb : base ≤ g) (hg : g < w.heap.size) (hbs : base ≤ w.heap.size) : Below base w (sortWorldK encP 2 w g 0 n d os) := by
  unfold sortWorldK
  refine ⟨rfl, rfl, rfl, ?_, fun k hk => ?_⟩
  · simp [grow, putRowK, putRow, mapBlock, Sort.ahead]
  · simp only [grow, putRowK, putRow, mapBlock, Sort.ahead]
    rw [Array.getElem?_append_left (by simp; omega), Array.getElem?_modify, if_neg (by omega)]

set_option maxHeartbeats 4000000 in
theorem sort_any (w : World) (base g cap : Nat) (l : List P2) (hb : base ≤ w.heap.size) (h12 : l.length ≤ 12) (h : w.ownsRow base 43 2 (.slice (some ⟨g, 0, none⟩) l.length cap) l.length (prs l)) (hg : g < w.heap.size) (hbg : base ≤ g) :
    Calls Tryz.prog 28 #[.slice (some ⟨g, 0, none⟩) l.length cap, .func (.func 29) #[] #[]] w fun e w' => e = .returned (.tuple #[]) ∧ Has w' w'.heap.size 2 (some ⟨g, 0, none⟩) l.length (prs (goSort l)) ∧ Below base w w' := by
  have eg : ∀ args w, (callFunc 29 args).run Tryz.prog w = .ok (.enter 29 args) w := enters_of Tryz.func29 (by kernel_rfl) rfl
  have hH := holds_own h
  have hcon := AnyQ.slices_SortFunc_small Tryz.sortAva 2 Tryz.isAgg43 Tryz.sizeOf43 encP encP_len encP_one cfP 29 #[] g 0 cap l.toArray w eg (fun _ _ _ _ x y => closure_any x y _) hH hg (by simpa using h12)
    (fun n W hn => (Tryz.bits_Len n W (by omega) (by omega)).mono fun _ _ ⟨he, hw⟩ => ⟨⟨_, he⟩, hw⟩)
  refine Calls.mono hcon ?_
  rintro e w' ⟨rfl, n, os, rfl⟩
  refine ⟨rfl, ?_, below_sort w g n _ os hbg hg hb⟩
  have hsz : (Sort.insertionSort (ltOf cfP) l.toArray 0 l.toArray.size).size = l.toArray.size := ins_size _ _ _ _
  have h1 := holdsK_sortWorldK_c encP 2 w g 0 l.toArray (Sort.insertionSort (ltOf cfP) l.toArray 0 l.toArray.size) n os hH hg hsz
  have hlen : l.length = (goSort l).length := by unfold goSort; rw [Array.length_toList]; exact hsz.symm
  have h2 : HoldsK encP 2 (sortWorldK encP 2 w g 0 n (Sort.insertionSort (ltOf cfP) l.toArray 0 l.toArray.size) os) g 0 (goSort l).toArray := by
    have : (goSort l).toArray = Sort.insertionSort (ltOf cfP) l.toArray 0 l.toArray.size := by unfold goSort; simp
    rw [this]; exact h1
  rw [hlen]
  exact has_holds (Nat.lt_of_lt_of_le hg (below_sort w g n _ os hbg hg hb).size) h2

end Go.Proofs.YtihoachcpabkeaaGreatDoor
