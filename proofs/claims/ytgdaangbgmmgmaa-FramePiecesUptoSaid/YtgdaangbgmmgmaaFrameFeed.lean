/-
  'Feed': the machine of states, label by label.
-/
import Derived.Test.YtgdaangbgmmgmaaFrameRun
import Derived.Test.YtgdaangbgmmgmaaScope
namespace Go.Proofs.Ytgdaangbgmmgmaa.Frame
open Go.RowKit

/-! ### Messages that were made -/
theorem own_apart {w : World} {b b' n n' : Nat} {u v : Value} {xs ys : List Value} (h : w.ownsRow b 5 1 u n xs) (h' : w.ownsRow b' 22 1 v n' ys) : u.ownBlock = none ∨ u.ownBlock ≠ v.ownBlock := by
  rcases h.2 with ⟨rfl, _⟩ | ⟨g, cap, cur, rfl, _, hg, _⟩
  · exact .inl rfl
  · right
    rcases h'.2 with ⟨rfl, _⟩ | ⟨g', cap', cur', rfl, _, hg', _⟩
    · simp [Value.ownBlock]
    · intro e
      simp only [Value.ownBlock, Option.some.injEq] at e
      subst e
      rw [hg] at hg'
      simp at hg'

theorem own_near {w w' : World} {g base : Nat} {e : TypeId} {v : Value} {n : Nat} {xs : List Value} (h : w.ownsRow base e 1 v n xs) (hn : Near g w w') (hg : g < base) : w'.ownsRow base e 1 v n xs := by
  refine ⟨h.1, h.2.imp id ?_⟩
  rintro ⟨g', cap, cur, hv, hb, hh, r⟩
  exact ⟨g', cap, cur, hv, hb, (hn.block g' ((Array.getElem?_eq_some_iff.1 hh).1) (by omega)).trans hh, r⟩

def Msgs (w : World) (base : Nat) (v : Value) (L : List (List UInt8)) : Prop :=
  ∃ xs, w.ownsRow base 22 1 v L.length xs ∧ ∀ (i : Nat) (l : List UInt8), L[i]? = some l → ∃ u, xs[i]? = some u ∧ w.ownsRow base 5 1 u l.length (bys l)

theorem Msgs.nothing (w : World) (base : Nat) : Msgs w base (.slice none 0 0) [] := ⟨[], World.ownsRow_nil _ _ _ _, fun i l h => by simp at h⟩

theorem Msgs.near {w w' : World} {g base : Nat} {v : Value} {L : List (List UInt8)} (h : Msgs w base v L) (hn : Near g w w') (hg : g < base) : Msgs w' base v L := by
  obtain ⟨xs, hx, he⟩ := h
  exact ⟨xs, own_near hx hn hg, fun i l hl => (he i l hl).imp fun u hu => ⟨hu.1, own_near hu.2 hn hg⟩⟩

theorem Msgs.more {w w' : World} {base : Nat} {v v' : Value} {L : List (List UInt8)} {xs : List Value} (hx : w.ownsRow base 22 1 v L.length xs)
    (he : ∀ (i : Nat) (l : List UInt8), L[i]? = some l → ∃ u, xs[i]? = some u ∧ w.ownsRow base 5 1 u l.length (bys l)) {u : Value} {l : List UInt8} (hu : w.ownsRow base 5 1 u l.length (bys l))
    (ho : w'.ownsRow base 22 1 v' (L.length + 1) (xs ++ [u])) (hg : w.grownBy w' v.ownBlock) : Msgs w' base v' (L ++ [l]) := by
  have hxl : xs.length = L.length := by simpa using hx.1
  refine ⟨xs ++ [u], by simpa using ho, fun i m hm => ?_⟩
  rcases Nat.lt_or_ge i L.length with hi | hi
  · rw [List.getElem?_append_left hi] at hm
    obtain ⟨z, hz, hzo⟩ := he i m hm
    exact ⟨z, by rw [List.getElem?_append_left (by omega)]; exact hz, hzo.kept hg (own_apart hzo hx)⟩
  · rw [List.getElem?_append_right hi] at hm
    have hi0 : i - L.length = 0 := by
      rcases Nat.eq_zero_or_pos (i - L.length) with h0 | h0
      · exact h0
      · rw [List.getElem?_eq_none (by simp; omega)] at hm
        cases hm
    rw [hi0] at hm
    simp only [List.getElem?_cons_zero, Option.some.injEq] at hm
    subst hm
    refine ⟨u, ?_, hu.kept hg (own_apart hu hx)⟩
    rw [List.getElem?_append_right (by omega), show i - xs.length = 0 by omega]
    rfl

/-- 'bytes.Clone' of what isn't nil. -/
theorem clone_any (w : World) (B : Nat) (ad : Addr) (n c : Nat) (l : List UInt8) (h : Has w B 1 (some ad) n (bys l)) (hB : B ≤ w.heap.size) (hn : n ≤ 16384) :
    Calls Try.prog 27 #[.slice (some ad) n c] w fun e w' => ∃ v, e = .returned v ∧ w'.ownsRow w.heap.size 5 1 v n (bys l) ∧ Below w.heap.size w w' := by
  have h1 := nil8 w (some ad) n c
  have ho := none8 w
  have hb : Below w.heap.size w (w.alloc (.cells #[] 5)) := (Below.refl _ _).alloc (Nat.le_refl _) _
  have hs := hb.size
  have hH : Has (w.alloc (.cells #[] 5)) B 1 (some ad) n (bys l) := h.keep fun p hp => World.cell?_alloc_lt _ _ _ (by omega)
  have hln : l.length = n := by simpa [bys] using h.1
  go_enter Try.func27, Try.ntmps27
  go_wp2_with (at_builtin; go_must (refine app8 _ rfl (.tmp 5) (.tmp 6) rfl w.heap.size _ 0 [] rfl ho _ _ n c l rfl hH (by omega) hs ?_))
  intro v' w2 ho2 hb2 _
  go_wp2
  go_ret
  exact ⟨_, rfl, by simpa using ho2, hb.trans hb2⟩

/-! ### What holds at a label -/
def sliceLen : Value → Nat
  | .slice _ n _ => n
  | _ => 0

structure At (w0 : World) (g : Nat) (m st : Int) (H : List UInt8) (ll cl : Nat) (p : List UInt8) (L : List (List UInt8)) (a : Act) (w : World) : Prop where
  frame : ∃ u : Nat → Value, a = { tmps := #[u 0, u 1, u 2, u 3, u 4, u 5, u 6, u 7, u 8, u 9, u 10, u 11, u 12, u 13, u 14, u 15, u 16, u 17, u 18, u 19, u 20, u 21, u 22, u 23, u 24, u 25, u 26, u 27, u 28, u 29, u 30, u 31, u 32, u 33, u 34, u 35, u 36, u 37, u 38, u 39, u 40, u 41, u 42, u 43, u 44, u 45, u 46, u 47, u 48, u 49, u 50, u 51, u 52, u 53, u 54, u 55, u 56, u 57, u 58, u 59, u 60, u 61, u 62, u 63, u 64, u 65, u 66, u 67, u 68, u 69, u 70, u 71, u 72, u 73, u 74, u 75, u 76, u 77, u 78, u 79, u 80, u 81, u 82, u 83, u 84, u 85, u 86, u 87, u 88, u 89, u 90, u 91, u 92, u 93, u 94, u 95, u 96, u 97, u 98, u 99, u 100], defers := [] } ∧ u 0 = .pointer (some ⟨g, 0, none⟩) ∧ (∃ A n c, u 1 = .slice A n c ∧ Off w0 g A n (bys p) ∧ n ≤ c ∧ c ≤ maxLen) ∧ Msgs w w0.heap.size (u 6) L
  cut : Cut w g m st H (H.length : Int) (ll : Int) (cl : Int)
  near : Near g w0 w

theorem frame_of (A : Array Value) (h : A.size = 101) : ∃ u : Nat → Value, A = #[u 0, u 1, u 2, u 3, u 4, u 5, u 6, u 7, u 8, u 9, u 10, u 11, u 12, u 13, u 14, u 15, u 16, u 17, u 18, u 19, u 20, u 21, u 22, u 23, u 24, u 25, u 26, u 27, u 28, u 29, u 30, u 31, u 32, u 33, u 34, u 35, u 36, u 37, u 38, u 39, u 40, u 41, u 42, u 43, u 44, u 45, u 46, u 47, u 48, u 49, u 50, u 51, u 52, u 53, u 54, u 55, u 56, u 57, u 58, u 59, u 60, u 61, u 62, u 63, u 64, u 65, u 66, u 67, u 68, u 69, u 70, u 71, u 72, u 73, u 74, u 75, u 76, u 77, u 78, u 79, u 80, u 81, u 82, u 83, u 84, u 85, u 86, u 87, u 88, u 89, u 90, u 91, u 92, u 93, u 94, u 95, u 96, u 97, u 98, u 99, u 100] ∧ ∀ i, u i = A.getD i undef := by
  refine ⟨fun i => A.getD i undef, ?_, fun _ => rfl⟩
  have e : A.toList = (List.range 101).map (fun i => A.getD i undef) := by
    refine List.ext_getElem (by simpa using h) fun i h1 h2 => ?_
    simp only [Array.length_toList] at h1
    simp [Array.getD, h1]
  calc A = A.toList.toArray := by simp
    _ = _ := by rw [e]; rfl

theorem At.of {w0 : World} {g : Nat} {m st : Int} {H : List UInt8} {ll cl : Nat} {p : List UInt8} {L : List (List UInt8)} {a : Act} {w : World} (A : Option Addr) (n c : Nat) (hd : a.defers = []) (hs : a.tmps.size = 101)
    (h0 : a.tmps.getD 0 undef = .pointer (some ⟨g, 0, none⟩)) (h1 : a.tmps.getD 1 undef = .slice A n c) (hoff : Off w0 g A n (bys p)) (hnc : n ≤ c) (hcm : c ≤ maxLen) (hM : Msgs w w0.heap.size (a.tmps.getD 6 undef) L)
    (cut : Cut w g m st H (H.length : Int) (ll : Int) (cl : Int)) (near : Near g w0 w) : At w0 g m st H ll cl p L a w := by
  obtain ⟨u, e, hu⟩ := frame_of a.tmps hs
  refine ⟨⟨u, ?_, (hu 0).trans h0, ⟨A, n, c, (hu 1).trans h1, hoff, hnc, hcm⟩, by rw [hu 6]; exact hM⟩, cut, near⟩
  cases a with
  | mk t d =>
    simp only at e hd
    rw [e, hd]

/-- What 'Feed' answers. -/
def Fed (w0 : World) (g : Nat) (m : Int) (R : Out) (e : Ending) (w' : World) : Prop :=
  ∃ v m', e = .returned (.tuple #[v, .int .i64 R.2.1]) ∧ Msgs w' w0.heap.size v R.1 ∧ (R.2.2.st ≠ 4 → m' = m) ∧
    Cut w' g m' (R.2.2.st : Int) R.2.2.buf (R.2.2.buf.length : Int) (R.2.2.ll : Int) (R.2.2.cl : Int) ∧ Near g w0 w'

noncomputable def fc : Code := match Try.f18.body with | some (.seq _ (.scope c)) => c | _ => .skip
noncomputable def fx (l : Nat) : Code := match findLabel fc l with | some (.seq .skip x) => x | _ => .skip

/-- How a part is left. -/
def Leaves (w0 : World) (g : Nat) (m : Int) (M : Nat) (R : Out) (N Lc : Nat) : Exit → Act → World → Prop :=
  Exit.jumps (fun l a w => l = 3 ∧ ∃ st p L, At w0 g m st [] 0 0 p L a w ∧ R = pre L (run M fresh p) ∧ 2 * p.length < N ∧ L.length ≤ Lc) (bodyPost Try.prog Try.f18 (Fed w0 g m R))

theorem Near.thenBelow {g : Nat} {w w' w'' : World} (h : Near g w w') (k : Below w.heap.size w' w'') : Near g w w'' :=
  ⟨k.os.trans h.os, k.tape.trans h.tape, k.output.trans h.output, Nat.le_trans h.size k.size, fun i hi hn => (k.block i hi).trans (h.block i hi hn)⟩

set_option maxRecDepth 100000 in
set_option maxHeartbeats 1600000 in
theorem seg2 (w0 : World) (g : Nat) (m : Int) (M : Nat) (R : Out) (N Lc : Nat) (st : Int) (H : List UInt8) (cl : Nat) (p : List UInt8) (L : List (List UInt8)) (a : Act) (w : World) (hg : g < w0.heap.size)
    (h : At w0 g m st H 0 cl p L a w) (hL : L.length ≤ 1000000000000) (hfit : H.length + cl ≤ 16384) (hH : H.length < 16384) (hR : R = pre L (crun M H cl p)) (hN : 2 * p.length < N) (hLc : L.length + 1 ≤ Lc) :
    (fx 2).wp Try.prog (Leaves w0 g m M R N Lc) a w := by
  obtain ⟨⟨u, rfl, hu0, ⟨A, n, c, hu1, hoff, hnc, hcm⟩, hM⟩, hcut, hnear⟩ := h
  rw [hu0, hu1]
  have hp2 := hoff.1
  rw [bys_length] at hp2
  have c1 := hcut.state
  have f1 := hcut.frozen 1
  have hc3 := hcut.setState 3
  have hn3 := Near.setCell g 1 w (.int .u8 3)
  have hr := content_any _ g m 3 ((0 : Nat) : Int) cl H hc3 A n c p ((hoff.near hnear).near hn3) hnc hcm (by omega) hfit hH
  have hn3' := hnear.trans hn3
  have hM3 := hM.near hn3 hg
  obtain ⟨k, hk⟩ : ∃ k, k = min cl n := ⟨_, rfl⟩
  rw [← hk] at hr
  obtain ⟨D, hD⟩ : ∃ D, D = cl - k := ⟨_, rfl⟩
  obtain ⟨N', hNN⟩ : ∃ N', N' = n - k := ⟨_, rfl⟩
  obtain ⟨C', hCC⟩ : ∃ C', C' = c - k := ⟨_, rfl⟩
  obtain ⟨S, hS⟩ : ∃ S, S = H.length + k := ⟨_, rfl⟩
  unfold Reads at hr
  rw [← hD, ← hNN, ← hCC, ← hS] at hr
  have hNC : N' ≤ C' := by omega
  have hCm : C' ≤ maxLen := by omega
  have hS2 : S ≤ 16384 := by omega
  obtain ⟨B, hB⟩ : ∃ B, B = H ++ p.take k := ⟨_, rfl⟩
  have hBl : B.length = S := by rw [hB, List.length_append, List.length_take]; omega
  rw [← hB] at hr
  have HR := hide hr
  have HM := hide hM3
  have HN := hide hn3'
  have HRR := hide hR
  have HNN := hide hNN
  have HBL := hide hBl
  clear hr hc3 hn3 hn3' hM3 hM hcut hnear hu0 hu1 hR hNN hCC
  simp only [fx, fc, Try.f18, findLabel, Nat.reduceBEq, Bool.false_eq_true, ↓reduceIte]
  rcases Nat.lt_or_ge n cl with hless | hless
  · obtain ⟨h1, hRk⟩ : 0 < D ∧ R = pre L ([], 0, ⟨3, B, 0, D⟩) := by
      refine ⟨by omega, ?_⟩
      have hkp : k = p.length := by omega
      rw [HRR.out, crun_less M p H cl (by omega), hB, hD, hkp, List.take_length]
    have hSi : (S : Int) = (B.length : Int) := by omega
    have HSI := hide hSi
    have HRK := hide hRk
    clear hk hD hB hS hRk hSi hBl
    have h2 : 0 < (D : Int) := by omega
    go_wp2_with fail
    refine HR.out.mono ?_
    rintro e w2 ⟨A', rfl, o1, o2, o3⟩
    have c2 := o2.want
    have HC := hide o2
    have HN2 := hide (HN.out.trans o3)
    have HM2 := hide (HM.out.near o3 hg)
    clear o1 o2 o3 HR HN HM c1 f1
    go_wp2
    unfold Leaves
    simp only [Exit.jumps]
    go_ret2
    refine ⟨u 6, m, ?_, ?_, fun _ => rfl, ?_, HN2.out⟩
    · rw [HRK.out]; rfl
    · rw [HRK.out]; simpa [pre] using HM2.out
    · rw [HRK.out]
      have := HC.out
      rw [HSI.out] at this
      exact this
  · obtain ⟨h1, hRk⟩ : D = 0 ∧ crun M H cl p = pre [B] (run M fresh (p.drop k)) := by
      refine ⟨by omega, ?_⟩
      have hkp : k = cl := by omega
      rw [crun_done M cl p H (by omega), hB, hkp]
    subst h1
    clear hk hD hB hS hBl
    go_wp2_with fail
    refine HR.out.mono ?_
    rintro e w2 ⟨A', rfl, o1, o2, o3⟩
    have c2 := o2.want
    have c3 := o2.count
    have HO := hide o1
    have HC := hide o2
    have hn2 := HN.out.trans o3
    have HN2 := hide hn2
    obtain ⟨xs, hx, he⟩ := HM.out.near o3 hg
    have HX := hide hx
    have HE := hide he
    have hsw2 : w0.heap.size ≤ w2.drew.heap.size := hn2.size
    have HCL := hide (clone_any w2.drew (g + 1) ⟨g, 2, none⟩ S 16384 B (by have := o2.drew.held; rwa [HBL.out] at this) (by have : w0.heap.size ≤ w2.heap.size := hn2.size; show g + 1 ≤ w2.heap.size; omega) hS2)
    clear o1 o2 o3 HR HN HM c1 f1 hx he hn2
    have c2' : w2.cell? ⟨g, 16388, none⟩ = some (.int .i64 0) := c2
    clear c2
    go_wp2_with fail
    refine grow_begin_at w0.heap.size (by kernel_rfl) ?_
    refine grow_take 0 (some 86) (v := ?vc0) rfl rfl (by kernel_rfl) (by kernel_rfl) (by kernel_rfl) (fun _ _ _ h => h) (by rfl) (fun W hW => ?yc0) ?_
    case yc0 =>
      go_simp <;> with_reducible rfl
    simp only [Act.put, List.setIfInBounds_toArray, List.set_cons_zero, List.set_cons_succ]
    refine grow_take 1 (some 87) (v := ?vc1) rfl rfl (by kernel_rfl) (by kernel_rfl) (by kernel_rfl) (fun _ _ _ h => h) (by rfl) (fun W hW => ?yc1) ?_
    case yc1 =>
      go_simp <;> with_reducible rfl
    simp only [Act.put, List.setIfInBounds_toArray, List.set_cons_zero, List.set_cons_succ]
    refine grow_take 2 (some 88) (v := ?vc2) rfl rfl (by kernel_rfl) (by kernel_rfl) (by kernel_rfl) (fun _ _ _ h => h) (by rfl) (fun W hW => ?yc2) ?_
    case yc2 =>
      go_simp <;> with_reducible rfl
    simp only [Act.put, List.setIfInBounds_toArray, List.set_cons_zero, List.set_cons_succ]
    refine grow_take 3 (some 89) (v := ?vc3) rfl rfl (by kernel_rfl) (by kernel_rfl) (by kernel_rfl) (fun _ _ _ h => h) (by rfl) (fun W hW => ?yc3) ?_
    case yc3 =>
      go_simp <;> with_reducible rfl
    simp only [Act.put, List.setIfInBounds_toArray, List.set_cons_zero, List.set_cons_succ]
    refine grow_take 4 (some 90) (v := ?vc4) rfl rfl (by kernel_rfl) (by kernel_rfl) (by kernel_rfl) (fun _ _ _ h => h) (by rfl) (fun W hW => ?yc4) ?_
    case yc4 =>
      go_simp <;> with_reducible rfl
    simp only [Act.put, List.setIfInBounds_toArray, List.set_cons_zero, List.set_cons_succ]
    refine grow_take 5 (some 91) (v := ?vc5) rfl rfl (by kernel_rfl) (by kernel_rfl) (by kernel_rfl) (fun _ _ _ h => h) (by rfl) (fun W hW => ?yc5) ?_
    case yc5 =>
      go_simp <;> with_reducible rfl
    simp only [Act.put, List.setIfInBounds_toArray, List.set_cons_zero, List.set_cons_succ]
    refine grow_take 6 (some 92) (v := ?vc6) rfl rfl (by kernel_rfl) (by kernel_rfl) (by kernel_rfl) (fun _ _ _ h => h) (by rfl) (fun W hW => ?yc6) ?_
    case yc6 =>
      go_simp <;> with_reducible rfl
    simp only [Act.put, List.setIfInBounds_toArray, List.set_cons_zero, List.set_cons_succ]
    refine grow_take 7 (some 93) (v := ?vc7) rfl rfl (by kernel_rfl) (by kernel_rfl) (by kernel_rfl) (fun _ _ _ h => h) (by rfl) (fun W hW => ?yc7) ?_
    case yc7 =>
      have h1 : W.cell? ⟨g, 16386, none⟩ = some (.int .i64 (S : Int)) := (Below.cell hW (p := ⟨g, 16386, none⟩) hg).trans c3
      go_simp <;> with_reducible rfl
    simp only [Act.put, List.setIfInBounds_toArray, List.set_cons_zero, List.set_cons_succ]
    refine grow_take 8 (some 94) (v := ?vc8) rfl rfl (by kernel_rfl) (by kernel_rfl) (by kernel_rfl) (fun _ _ _ h => h) (by rfl) (fun W hW => ?yc8) ?_
    case yc8 =>
      have h1 := run_upto W g S hS2
      go_simp <;> with_reducible rfl
    simp only [Act.put, List.setIfInBounds_toArray, List.set_cons_zero, List.set_cons_succ]
    refine grow_only 9 rfl (by kernel_rfl) (fun K hK => ?_)
    go_simp
    refine HCL.out.mono ?_
    rintro e w3 ⟨v3, rfl, ho3, hb3⟩
    obtain ⟨A1, c1, rfl, _, hH3⟩ := own_form ho3
    have ho3b := own_base ho3 hsw2
    have hbb3 := hb3.mono hsw2
    refine hK.out _ _ hbb3 ?_
    clear hK K ho3 HCL
    try simp only [Act.put, List.setIfInBounds_toArray, List.set_cons_zero, List.set_cons_succ]
    refine grow_only 10 rfl (by kernel_rfl) (fun K hK => ?_)
    go_simp
    have hb4 : Below w3.heap.size w3 (w3.alloc (.cells #[.slice A1 S c1] 22)) := (Below.refl _ _).alloc (Nat.le_refl _) _
    have hs23 := hb3.size
    have hb3w : Below w2.heap.size w2 w3 := (Below.refl _ w2).drew.trans hb3
    have hs03 : w0.heap.size ≤ w3.heap.size := Nat.le_trans hsw2 hs23
    have hr4 : (w3.alloc (.cells #[.slice A1 S c1] 22)).ownsRow w3.heap.size 22 1 (.slice (some ⟨w3.heap.size, 0, none⟩) 1 1) 1 [.slice A1 S c1] := own_lit w3 #[.slice A1 S c1] 22 1 (by unfold maxLen; omega) rfl
    have hr4h := Has.own hr4
    have ho4 := own_below ho3b hb4
    have hx4 := own_below (own_below HX.out hb3w) hb4
    have he4 := hide fun (i : Nat) (l : List UInt8) (hl : L[i]? = some l) => (HE.out i l hl).imp fun z hz => And.intro hz.1 (own_below (own_below hz.2 hb3w) hb4)
    refine hK.out _ _ (hb4.mono hs03) ?_
    generalize w3.alloc (.cells #[.slice A1 S c1] 22) = w4 at *
    clear hK K ho3b hr4
    try simp only [Act.put, List.setIfInBounds_toArray, List.set_cons_zero, List.set_cons_succ]
    refine grow_only 11 rfl (by kernel_rfl) (fun K hK => ?_)
    refine Ber.step22 w4 (some 97) rfl rfl (.tmp 86) (.tmp 96) rfl w0.heap.size (u 6) L.length xs rfl hx4 _ _ 1 1 [.slice A1 S c1] rfl hr4h (by simp [Value.oneCell']) (by omega) (Nat.le_trans hs03 hb4.size) ?_
    intro v5 w5 ho5 hb5 hat5 hg5
    have hm5 := Msgs.more (l := B) hx4 he4.out (by rw [HBL.out]; exact ho4) ho5 hg5
    refine hK.out _ _ hb5 ?_
    clear hK K ho5 hat5 hg5
    try simp only [Act.put, List.setIfInBounds_toArray, List.set_cons_zero, List.set_cons_succ]
    refine grow_take 12 (some 6) (v := ?vc12) rfl rfl (by kernel_rfl) (by kernel_rfl) (by kernel_rfl) (fun _ _ _ h => h) (by rfl) (fun W hW => ?yc12) ?_
    case yc12 =>
      go_simp <;> with_reducible rfl
    simp only [Act.put, List.setIfInBounds_toArray, List.set_cons_zero, List.set_cons_succ]
    refine grow_done (by kernel_rfl) ?_ _
    have hc5 := ((HC.out.drew.below (hb3.mono hsw2) hg).below (hb4.mono hs03) hg).below hb5 hg
    have hn5 : Near g w0 w5 := ((HN2.out.trans (Near.drew g w2)).thenBelow (hb3.mono hsw2)).thenBelow (hb4.mono hs03) |>.thenBelow hb5
    have HM5 := hide hm5
    have c5 := hc5.count
    have f5 := hc5.frozen 16386
    have hc6 := (hc5.setCount 0).shorten 0
    have hn6 := hn5.trans (Near.setCell g 16386 w5 (.int .i64 0))
    have hm6 := HM5.out.near (Near.setCell g 16386 w5 (.int .i64 0)) hg
    have HM6 := hide hm6
    have HC6 := hide hc6
    have HN6 := hide hn6
    clear hb3w hc5 hn5 hm5 hc6 hn6 hm6 HM5 hb5 hb4 hs03 hs23 hb3 he4 hx4 ho4 HX HE
    go_wp2_with fail
    all_goals (try go_step3)
    unfold Leaves
    simp only [Exit.jumps]
    refine ⟨trivial, 3, p.drop k, L ++ [B], At.of A' N' C' rfl rfl rfl rfl ?_ (by omega) (by omega) HM6.out ?_ HN6.out, ?_, ?_, ?_⟩
    · exact HO.out w0 hoff
    · exact HC6.out
    · rw [HRR.out, hRk, pre_pre]
    · rw [List.length_drop]
      omega
    · simpa using hLc


end Go.Proofs.Ytgdaangbgmmgmaa.Frame
