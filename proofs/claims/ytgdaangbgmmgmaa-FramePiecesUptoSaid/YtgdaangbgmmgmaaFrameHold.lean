/-
  What a cutter keeps: the first bytes of a piece are laid behind those that wait.
-/
import Derived.Test.YtgdaangbgmmgmaaFrameCut
namespace Go.Proofs.Ytgdaangbgmmgmaa.Frame
open Go.RowKit

/-- A slice that lies elsewhere than in block g reads as xs. -/
def Off (w : World) (g : Nat) (A : Option Addr) (n : Nat) (xs : List Value) : Prop :=
  xs.length = n ∧ (xs = [] ∨ ∃ ad, A = some ad ∧ ad.block ≠ g ∧ ∀ j u, xs[j]? = some u → w.cell? (ad.add j) = some u)

theorem Off.of {w : World} {g B : Nat} {A : Option Addr} {n : Nat} {xs : List Value} (h : Has w B 1 A n xs) (hg : B ≤ g) : Off w g A n xs := by
  refine ⟨by simpa using h.1, h.2.imp id ?_⟩
  rintro ⟨ad, e, hb, hc⟩
  exact ⟨ad, e, by omega, hc⟩

theorem Off.near {w w' : World} {g : Nat} {A : Option Addr} {n : Nat} {xs : List Value} (h : Off w g A n xs) (hn : Near g w w') : Off w' g A n xs := by
  refine ⟨h.1, h.2.imp id ?_⟩
  rintro ⟨ad, e, hb, hc⟩
  refine ⟨ad, e, hb, fun j u hu => ?_⟩
  have h1 := hc j u hu
  have hlt := World.block_lt_of_cell? w _ h1
  rw [← h1]
  exact World.cell?_of_block (hn.block _ hlt (by rw [block_add]; exact hb))

theorem Off.drop {w : World} {g : Nat} {A : Option Addr} {n : Nat} {xs : List Value} (h : Off w g A n xs) {k cap : Nat} (_hk : k ≤ n) (hc : n ≤ cap) :
    Off w g (if cap = k then A else A.map (·.add k)) (n - k) (xs.drop k) := by
  refine ⟨by rw [List.length_drop, h.1], ?_⟩
  rcases Nat.lt_or_ge k n with hn | hn
  · rcases h.2 with rfl | ⟨ad, rfl, hb, hcell⟩
    · simp
    · rw [if_neg (by omega)]
      refine .inr ⟨ad.add k, rfl, by rw [block_add]; exact hb, fun j u hu => ?_⟩
      rw [add_add]
      exact hcell _ u (by rw [← hu, List.getElem?_drop])
  · exact .inl (List.drop_eq_nil_of_le (by rw [h.1]; omega))

def atCell (p : Addr) (w : World) : World → Prop := fun W => W.cell? p = w.cell? p
instance cellWay (p : Addr) : Way (atCell p) := ⟨fun _ => rfl, fun h k => Eq.trans k h⟩

theorem grow_begin_by {P : Program} {ops : Array Oper} {Q : Exit → Act → World → Prop} (R : World → World → Prop) {id : Nat} {a : Act} {w : World} (hm : P.follows .mixedOrders = true)
    (h : wpAnyG R P .any ops Q ops.size (Array.replicate ops.size false) a w.drew) : (Code.region id ops true).wp P Q a w :=
  wp_region_any hm (wpAny_of_grow _ _ _ _ h)

theorem row_copy (m st : Int) (H Z l : List Value) (cnt ll cl : Int) (hl : l.length ≤ Z.length) :
    (cutRow m st H Z cnt ll cl).take (2 + H.length) ++ (l ++ (cutRow m st H Z cnt ll cl).drop (2 + H.length + l.length)) = cutRow m st (H ++ l) (Z.drop l.length) cnt ll cl := by
  unfold cutRow
  rw [show 2 + H.length = H.length + 1 + 1 by omega, List.take_succ_cons, List.take_succ_cons, show H.length + 1 + 1 + l.length = (H.length + l.length) + 1 + 1 by omega, List.drop_succ_cons, List.drop_succ_cons]
  simp only [List.cons_append, List.append_assoc, List.take_left', List.cons.injEq, true_and]
  rw [List.drop_append, List.drop_eq_nil_of_le (by omega), List.nil_append, show H.length + l.length - H.length = l.length by omega, List.drop_append_of_le_length hl]

theorem arr_len : Try.prog.arrayLen 27 = 16384 := by kernel_rfl
theorem arr_elem : Try.prog.elem 27 = 5 := by kernel_rfl
theorem arr_under : Try.prog.underlying 27 = some (.array (Try.prog.arrayLen 27) (Try.prog.elem 27)) := by
  rw [arr_len, arr_elem]
  exact Try.underlying27

/-- 'c.held[k:]'. -/
theorem run_from (W : World) (g k : Nat) (hk : k < 16384) : (Instr.sliceAt 27 (.pointer (some ⟨g, 2, none⟩)) (some (.int .i64 (k : Int))) none none).run Try.prog W =
    .ok (.slice (some ⟨g, 2 + k, none⟩) (16384 - k) (16384 - k)) W := by
  rw [run_sliceAt_array_l W _ _ arr_under .i64 k (by omega) (by rw [arr_len]; omega), arr_elem, arr_len, Try.sizeOf5]
  simp only [Result.andThen_ok, slicedAt, Int.toNat_natCast, Nat.mul_one]
  rw [if_neg (by omega)]
  unfold Addr.add
  split <;> simp_all

/-- 'c.held[:k]'. -/
theorem run_upto (W : World) (g k : Nat) (hk : k ≤ 16384) : (Instr.sliceAt 27 (.pointer (some ⟨g, 2, none⟩)) none (some (.int .i64 (k : Int))) none).run Try.prog W =
    .ok (.slice (some ⟨g, 2, none⟩) k 16384) W := by
  rw [run_sliceAt_array_h W _ _ arr_under .i64 k (by omega) (by rw [arr_len]; omega), arr_elem, arr_len, Try.sizeOf5]
  simp only [Result.andThen_ok, slicedAt, Int.toNat_natCast, Nat.mul_one]
  rw [if_neg (by omega)]
  simp [Addr.add]

theorem info8s : (Try.prog.info? 5).map (·.size) = some 1 := by kernel_rfl

theorem step_copy_cut {ops : Array Oper} {o : Oper} {a : Act} {K : Act → World → Prop} {Q : Exit → Act → World → Prop} {E : Prop} {W : World} (d : Option Tmp) (hd : o.dst = d) (hgd : o.guard = none) (x y : Operand)
    (ho : o.op = .call { callee := .builtin .copy, args := #[x, y], argTypes := #[22, 22] })
    {g : Nat} {m st cnt ll cl : Int} {H : List UInt8} (hc : Cut W g m st H cnt ll cl) (l : List UInt8) (dp sp : Option Addr) (dLen dCap sLen sCap : Nat)
    (hx : a.eval x = .slice dp dLen dCap) (hy : a.eval y = .slice sp sLen sCap) (hn : l.length = Nat.min sLen dLen)
    (hpos : 0 < l.length → dp = some ⟨g, 2 + H.length, none⟩ ∧ ∃ ad, sp = some ad ∧ ∀ j v, (bys l)[j]? = some v → W.cell? (ad.add j) = some v) (hfit : H.length + l.length ≤ 16384)
    (h : ∀ w', Cut w' g m st (H ++ l) cnt ll cl → Near g W w' → K (a.put d (goInt l.length)) w') :
    if Region.wanted o (yielded ops a.tmps) = true then Oper.wp Try.prog o a W K Q else E := by
  have hw : Region.wanted o (yielded ops a.tmps) = true := by simp [Region.wanted, hgd]
  rw [if_pos hw]
  subst hd
  by_cases h0 : l.length = 0
  · obtain rfl : l = [] := List.eq_nil_of_length_eq_zero h0
    have hrun := run_copy_none (P := Try.prog) W 22 22 o.type 5 dp sp dLen dCap sLen sCap Try.underlying22 info8s (by simpa using hn.symm)
    unfold Oper.wp
    simp [execOp, ho, resolve, invoke, builtin, hx, hy, hrun, Result.andThen]
    exact h W (by simpa using hc) (Near.refl _ _)
  · obtain ⟨rfl, ad, rfl, hsrc⟩ := hpos (by omega)
    obtain ⟨Z, hl, hg⟩ := hc
    have hlen := cutRow_length m st (bys H) Z cnt ll cl
    have hrun := run_copy_row (P := Try.prog) W 22 22 o.type 5 g (2 + H.length) dLen dCap ad sLen sCap _ 29 (bys l) Try.underlying22 info8s hg (by rw [bys_length]; exact hn) hsrc
      (by simp [hlen, bys_length]; omega) (bys_one _)
    have hrow := row_copy m st (bys H) Z (bys l) cnt ll cl (by simp [bys_length]; omega)
    rw [bys_length] at hrow
    rw [List.append_assoc] at hrun
    rw [show (cutRow m st (bys H) Z cnt ll cl).toArray.toList = cutRow m st (bys H) Z cnt ll cl from rfl, hrow] at hrun
    unfold Oper.wp
    simp only [execOp, ho, resolve, invoke, builtin, Sem.run_bind, Sem.run_pure, Result.andThen_ok, List.map_toArray, List.map_cons, List.map_nil, hx, hy, hrun]
    rw [bys_length]
    refine h _ ⟨Z.drop l.length, by simp; omega, ?_⟩ (Near.setRow _ _ _)
    rw [setRow_heap W g _ _ _ _ hg, bys_append]

/-- What 'hold' answers, and what it makes of the cutter. -/
def Held (f : Nat) (w : World) (g : Nat) (m st ll cl : Int) (H : List UInt8) (A : Option Addr) (n c : Nat) (l : List UInt8) (k : Nat) : Prop :=
  Calls Try.prog f #[.pointer (some ⟨g, 0, none⟩), .slice A n c, .int .i64 (k : Int)] w fun e w' => ∃ A', e = .returned (.slice A' (n - k) (c - k)) ∧
    (∀ W, Off W g A n (bys l) → Off W g A' (n - k) (bys (l.drop k))) ∧ Cut w' g m st (H ++ l.take k) ((H.length + k : Nat) : Int) ll cl ∧ Near g w w'

set_option maxRecDepth 100000 in
set_option maxHeartbeats 1600000 in
theorem hold_any (w : World) (g : Nat) (m st ll cl : Int) (H : List UInt8) (hc : Cut w g m st H (H.length : Int) ll cl) (A : Option Addr) (n c : Nat) (l : List UInt8) (k : Nat)
    (hp : Off w g A n (bys l)) (hk : k ≤ n) (hnc : n ≤ c) (hcm : c ≤ maxLen) (hfit : H.length + k ≤ 16384) (hH : H.length < 16384) :
    Held 22 w g m st ll cl H A n c l k := by
  unfold Held
  have hln : l.length = n := by simpa [bys] using hp.1
  have hcnt := hc.count
  have hcm' : c ≤ 9223372036854775807 := hcm
  obtain ⟨T, hT⟩ : ∃ T, T = l.take k := ⟨_, rfl⟩
  have hTk : T.length = k := by rw [hT, List.length_take]; omega
  have hTn : T.length = Nat.min k (16384 - H.length) := by rw [hTk]; exact (Nat.min_eq_left (by omega)).symm
  have hsrc : 0 < T.length → ∃ ad, A = some ad ∧ ∀ j v, (bys T)[j]? = some v → w.drew.cell? (ad.add j) = some v := by
    intro h0
    rcases hp.2 with h1 | ⟨ad, e, _, hcl⟩
    · rw [h1] at hp
      have := hp.1
      simp at this
      omega
    · refine ⟨ad, e, fun j v hv => hcl j v ?_⟩
      rw [hT, ← bys_take, List.getElem?_take] at hv
      split at hv
      · exact hv
      · cases hv
  rw [← hT]
  have HT := hide hT
  clear hT
  go_enter Try.func22, Try.ntmps22
  go_wp2_with fail
  refine grow_begin_by (atCell ⟨g, 16386, none⟩) (by kernel_rfl) ?_
  refine grow_take 0 (some 7) (v := ?va0) rfl rfl (by kernel_rfl) (by kernel_rfl) (by kernel_rfl) (fun _ _ _ h => h) (by rfl) (fun W hW => ?ya0) ?_
  case ya0 =>
    go_simp <;> with_reducible rfl
  simp only [Act.put, List.setIfInBounds_toArray, List.set_cons_zero, List.set_cons_succ]
  refine grow_take 1 (some 8) (v := ?va1) rfl rfl (by kernel_rfl) (by kernel_rfl) (by kernel_rfl) (fun _ _ _ h => h) (by rfl) (fun W hW => ?ya1) ?_
  case ya1 =>
    go_simp <;> with_reducible rfl
  simp only [Act.put, List.setIfInBounds_toArray, List.set_cons_zero, List.set_cons_succ]
  refine grow_take 2 (some 9) (v := ?va2) rfl rfl (by kernel_rfl) (by kernel_rfl) (by kernel_rfl) (fun _ _ _ h => h) (by rfl) (fun W hW => ?ya2) ?_
  case ya2 =>
    go_simp <;> with_reducible rfl
  simp only [Act.put, List.setIfInBounds_toArray, List.set_cons_zero, List.set_cons_succ]
  refine grow_take 3 (some 10) (v := ?va3) rfl rfl (by kernel_rfl) (by kernel_rfl) (by kernel_rfl) (fun _ _ _ h => h) (by rfl) (fun W hW => ?ya3) ?_
  case ya3 =>
    go_simp <;> with_reducible rfl
  simp only [Act.put, List.setIfInBounds_toArray, List.set_cons_zero, List.set_cons_succ]
  refine grow_take 4 (some 11) (v := ?va4) rfl rfl (by kernel_rfl) (by kernel_rfl) (by kernel_rfl) (fun _ _ _ h => h) (by rfl) (fun W hW => ?ya4) ?_
  case ya4 =>
    go_simp <;> with_reducible rfl
  simp only [Act.put, List.setIfInBounds_toArray, List.set_cons_zero, List.set_cons_succ]
  refine grow_take 5 (some 12) (v := ?va5) rfl rfl (by kernel_rfl) (by kernel_rfl) (by kernel_rfl) (fun _ _ _ h => h) (by rfl) (fun W hW => ?ya5) ?_
  case ya5 =>
    go_simp <;> with_reducible rfl
  simp only [Act.put, List.setIfInBounds_toArray, List.set_cons_zero, List.set_cons_succ]
  refine grow_take 6 (some 13) (v := ?va6) rfl rfl (by kernel_rfl) (by kernel_rfl) (by kernel_rfl) (fun _ _ _ h => h) (by rfl) (fun W hW => ?ya6) ?_
  case ya6 =>
    have h1 : W.cell? ⟨g, 16386, none⟩ = some (.int .i64 (H.length : Int)) := Eq.trans hW hcnt
    go_simp <;> with_reducible rfl
  simp only [Act.put, List.setIfInBounds_toArray, List.set_cons_zero, List.set_cons_succ]
  refine grow_take 7 (some 14) (v := ?va7) rfl rfl (by kernel_rfl) (by kernel_rfl) (by kernel_rfl) (fun _ _ _ h => h) (by rfl) (fun W hW => ?ya7) ?_
  case ya7 =>
    have h1 := run_from W g H.length hH
    go_simp <;> with_reducible rfl
  simp only [Act.put, List.setIfInBounds_toArray, List.set_cons_zero, List.set_cons_succ]
  refine grow_take 8 (some 15) (v := ?va8) rfl rfl (by kernel_rfl) (by kernel_rfl) (by kernel_rfl) (fun _ _ _ h => h) (by rfl) (fun W hW => ?ya8) ?_
  case ya8 =>
    go_simp <;> with_reducible rfl
  simp only [Act.put, List.setIfInBounds_toArray, List.set_cons_zero, List.set_cons_succ]
  refine grow_take 9 (some 16) (v := ?va9) rfl rfl (by kernel_rfl) (by kernel_rfl) (by kernel_rfl) (fun _ _ _ h => h) (by rfl) (fun W hW => ?ya9) ?_
  case ya9 =>
    go_simp <;> with_reducible rfl
  simp only [Act.put, List.setIfInBounds_toArray, List.set_cons_zero, List.set_cons_succ]
  refine grow_take 10 (some 17) (v := ?va10) rfl rfl (by kernel_rfl) (by kernel_rfl) (by kernel_rfl) (fun _ _ _ h => h) (by rfl) (fun W hW => ?ya10) ?_
  case ya10 =>
    have h1 : k ≤ c := by omega
    go_simp <;> with_reducible rfl
  simp only [Act.put, List.setIfInBounds_toArray, List.set_cons_zero, List.set_cons_succ]
  refine grow_only 11 rfl (by kernel_rfl) (fun K hK => ?_)
  refine step_copy_cut (some 18) rfl rfl (.tmp 14) (.tmp 17) rfl hc.drew T _ _ _ _ _ _ rfl rfl hTn (fun h0 => ⟨rfl, hsrc h0⟩) (by omega) ?_
  intro w1 hc1 hn1
  refine hK.out _ _ (hc1.count.trans hcnt.symm) ?_
  clear hK K
  simp only [Act.put, List.setIfInBounds_toArray, List.set_cons_zero, List.set_cons_succ]
  refine grow_done (by kernel_rfl) ?_ _
  have hn : Near g w w1 := (Near.drew g w).trans hn1
  have c1 := hc1.count
  have f1 := hc1.frozen 16386
  clear hsrc hTn hn1 hc hcnt hp
  generalize hcap : (H.length + k : Nat) = S
  have hS : (H.length : Int) + (k : Int) = (S : Int) := by omega
  have hS2 : -9223372036854775808 ≤ (S : Int) ∧ (S : Int) ≤ 9223372036854775807 := by omega
  have hd : ∀ W, Off W g A n (bys l) → Off W g (if c = k then A else A.map (·.add k)) (n - k) (bys (l.drop k)) := fun W hW => by rw [← bys_drop]; exact hW.drop hk hnc
  have hcc := hc1.setCount (S : Int)
  have hnn := hn.trans (Near.setCell g 16386 w1 (.int .i64 (S : Int)))
  have HD := hide hd
  clear hd
  go_wp2
  all_goals go_ret
  all_goals have hd := HD.out
  all_goals first | simp only [if_pos h] at hd | simp only [if_neg h] at hd
  all_goals exact ⟨_, rfl, hd, hcc, hnn⟩

end Go.Proofs.Ytgdaangbgmmgmaa.Frame
