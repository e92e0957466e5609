/-
  Rows of parts: slices of slices of pairs, what is read of them, what is laid behind them. By an AI agent.
-/
import Derived.Test.YtmidjagjgipabaaGreatDoorQMath
import Derived.Test.YtmidjagjgipabaaGreatDoorMG
import Derived.Laws.MakeOwn
import Derived.Laws.ResultCell
namespace Go.Proofs.YtmidjagjgipabaaGreatDoor
open Go.RowKit
set_option linter.unusedVariables false

/-- The slices vs read as the parts L. -/
structure Rows2 (w : World) (B : Nat) (vs : List Value) (L : List (List P2)) : Prop where
  len : vs.length = L.length
  each : ∀ (i : Nat) (p : List P2), L[i]? = some p → ∃ A c, vs[i]? = some (.slice A p.length c) ∧ Has w B 2 A p.length (prs p)

theorem Rows2.nil (w : World) (B : Nat) : Rows2 w B [] [] := ⟨rfl, fun i p h => by simp at h⟩
theorem Rows2.below {w w' : World} {B : Nat} {vs : List Value} {L : List (List P2)} (h : Rows2 w B vs L) (hb : Below B w w') : Rows2 w' B vs L :=
  ⟨h.len, fun i p hp => by obtain ⟨A, c, h1, h2⟩ := h.each i p hp; exact ⟨A, c, h1, h2.below hb⟩⟩
theorem Rows2.upto {w : World} {B B' : Nat} {vs : List Value} {L : List (List P2)} (h : Rows2 w B vs L) (hB : B ≤ B') : Rows2 w B' vs L :=
  ⟨h.len, fun i p hp => by obtain ⟨A, c, h1, h2⟩ := h.each i p hp; exact ⟨A, c, h1, h2.upto hB⟩⟩
theorem Rows2.grow {w w' : World} {vs : List Value} {L : List (List P2)} (h : Rows2 w w.heap.size vs L) (hb : Below w.heap.size w w') : Rows2 w' w'.heap.size vs L := (h.below hb).upto hb.size
theorem Rows2.snoc {w : World} {B : Nat} {vs : List Value} {L : List (List P2)} (h : Rows2 w B vs L) {A : Option Addr} {p : List P2} (c : Nat) (hH : Has w B 2 A p.length (prs p)) : Rows2 w B (vs ++ [.slice A p.length c]) (L ++ [p]) := by
  refine ⟨by simp [h.len], fun i q hq => ?_⟩
  by_cases hi : i < L.length
  · rw [List.getElem?_append_left hi] at hq
    obtain ⟨A', c', h1, h2⟩ := h.each i q hq
    exact ⟨A', c', by rw [List.getElem?_append_left (by rw [h.len]; exact hi)]; exact h1, h2⟩
  · have hi2 : i = L.length := by
      have := (List.getElem?_eq_some_iff.1 hq).1
      simp at this; omega
    subst hi2
    simp at hq
    subst hq
    exact ⟨A, c, by rw [List.getElem?_append_right (by rw [h.len]; exact Nat.le_refl _), h.len]; simp, hH⟩

/-- The part lies behind base, and in no block of the row v. -/
def OffP (base : Nat) (v : Value) (A : Option Addr) (p : List P2) : Prop := p = [] ∨ ∀ ad, A = some ad → base ≤ ad.block ∧ some ad.block ≠ v.ownBlock

/-- A row of parts of the call's own. -/
structure RowOf (w : World) (base : Nat) (E : TypeId) (v : Value) (vs : List Value) (L : List (List P2)) : Prop where
  own : w.ownsRow base E 1 v L.length vs
  rows : Rows2 w w.heap.size vs L
  off : ∀ (i : Nat) (p : List P2) (A : Option Addr) (c : Nat), L[i]? = some p → vs[i]? = some (.slice A p.length c) → OffP base v A p

theorem has_grown {w w' : World} {B n : Nat} {row : Option Nat} {A : Option Addr} {p : List P2} (h : Has w B 2 A n (prs p)) (hB : B ≤ w.heap.size) (hg : w.grownBy w' row) (ho : p = [] ∨ ∀ ad, A = some ad → some ad.block ≠ row) : Has w' B 2 A n (prs p) := by
  refine ⟨h.1, ?_⟩
  rcases h.2 with h0 | ⟨ad, rfl, hb, hc⟩
  · exact .inl h0
  · rcases ho with rfl | ho
    · exact .inl rfl
    · refine .inr ⟨ad, rfl, hb, fun j u hu => ?_⟩
      refine (World.cell?_of_block ?_).trans (hc j u hu)
      rw [block_add]
      exact hg.block _ (by omega) (ho ad rfl)

theorem has_block {w : World} {B n : Nat} {A : Option Addr} {p : List P2} (h : Has w B 2 A n (prs p)) : p = [] ∨ ∀ ad, A = some ad → ad.block < B := by
  rcases h.2 with h0 | ⟨ad, rfl, hb, _⟩
  · refine .inl ?_
    have := congrArg List.length h0
    rw [prs_length] at this
    simp only [List.length_nil] at this
    exact List.eq_nil_of_length_eq_zero (by omega)
  · exact .inr fun ad' ha => by obtain rfl := Option.some.inj ha; exact hb

section
variable {w w' : World} {base : Nat} {E : TypeId} {v v' : Value} {vs : List Value} {L : List (List P2)}

theorem RowOf.start (h : w.ownsRow base E 1 v 0 []) : RowOf w base E v [] [] := ⟨h, Rows2.nil _ _, fun i p A c h _ => by simp at h⟩
theorem RowOf.below (h : RowOf w base E v vs L) (hb : Below w.heap.size w w') : RowOf w' base E v vs L := ⟨own_below h.own hb, h.rows.grow hb, h.off⟩
theorem RowOf.alloc (h : RowOf w base E v vs L) (o : Obj) : RowOf (w.alloc o) base E v vs L := h.below ((Below.refl _ _).alloc (Nat.le_refl _) o)

/-- A write into a block ahead of it. -/
theorem RowOf.set (h : RowOf w base E v vs L) {B0 : Nat} (hB : B0 < base) (u : Value) : RowOf (w.setCell ⟨B0, 0, none⟩ u) base E v vs L := by
  have hg : w.grownBy (w.setCell ⟨B0, 0, none⟩ u) (some B0) := ⟨rfl, rfl, rfl, by simp [World.setCell], fun k hk hne => by
    simp only [World.setCell, Array.getElem?_modify]
    rw [if_neg (fun e => hne (by rw [← e]))]⟩
  refine ⟨h.own.kept hg ?_, ⟨h.rows.len, fun i p hp => ?_⟩, h.off⟩
  · rcases h.own.2 with ⟨rfl, _⟩ | ⟨g, cap, cur, rfl, hb, _⟩
    · exact .inl rfl
    · exact .inr fun e => by simp [Value.ownBlock] at e; omega
  · obtain ⟨A, c, h1, h2⟩ := h.rows.each i p hp
    refine ⟨A, c, h1, (has_grown h2 (Nat.le_refl _) hg ?_).upto hg.size⟩
    rcases h.off i p A c hp h1 with h0 | ho
    · exact .inl h0
    · exact .inr fun ad ha e => by have := (ho ad ha).1; have := Option.some.inj e; omega

/-- What is told later lies elsewhere. -/
theorem OffP.new {A : Option Addr} {p : List P2} {n : Nat} (ho : w.ownsRow base E 1 v n vs) (hb : base ≤ w.heap.size) (hl : ∀ ad, A = some ad → w.heap.size ≤ ad.block) : OffP base v A p := by
  refine .inr fun ad ha => ?_
  have h1 := hl ad ha
  refine ⟨by omega, fun e => ?_⟩
  rcases ho.2 with ⟨rfl, _⟩ | ⟨g, cap, cur, rfl, _, hh, _⟩
  · cases e
  · have : ad.block = g := by simpa [Value.ownBlock] using e
    have hlt : g < w.heap.size := (Array.getElem?_eq_some_iff.1 hh).1
    omega

theorem OffP.row {A : Option Addr} {p : List P2} (h : OffP base v A p) : p = [] ∨ ∀ ad, A = some ad → some ad.block ≠ v.ownBlock := h.imp id fun h ad ha => (h ad ha).2

theorem RowOf.snoc (h : RowOf w base E v vs L) {A : Option Addr} {c : Nat} {p : List P2} (hH : Has w w.heap.size 2 A p.length (prs p)) (ho : OffP base v A p)
    (hown : w'.ownsRow base E 1 v' (L.length + 1) (vs ++ [.slice A p.length c])) (hg : w.grownBy w' v.ownBlock) (ht : v'.ownBlock = v.ownBlock ∨ v'.ownBlock = some w.heap.size) :
    RowOf w' base E v' (vs ++ [.slice A p.length c]) (L ++ [p]) := by
  have next : ∀ (q : List P2) (A' : Option Addr), OffP base v A' q → Has w w.heap.size 2 A' q.length (prs q) → OffP base v' A' q := by
    intro q A' hq hA
    rcases hq with hq | hq
    · exact .inl hq
    · rcases ht with ht | ht
      · exact .inr fun ad ha => by rw [ht]; exact hq ad ha
      · rcases has_block hA with h0 | hlt
        · exact .inl h0
        · refine .inr fun ad ha => ⟨(hq ad ha).1, fun e => ?_⟩
          rw [ht] at e
          have := hlt ad ha
          have := Option.some.inj e
          omega
  have keepR : Rows2 w' w.heap.size vs L := ⟨h.rows.len, fun i q hq => by
    obtain ⟨A', c', h1, h2⟩ := h.rows.each i q hq
    exact ⟨A', c', h1, has_grown h2 (Nat.le_refl _) hg (h.off i q A' c' hq h1).row⟩⟩
  refine ⟨by rw [List.length_append]; exact hown, (keepR.upto hg.size).snoc c ((has_grown hH (Nat.le_refl _) hg ho.row).upto hg.size), fun i q A' c' hq hv => ?_⟩
  by_cases hi : i < L.length
  · rw [List.getElem?_append_left hi] at hq
    rw [List.getElem?_append_left (by rw [h.rows.len]; exact hi)] at hv
    obtain ⟨A2, c2, h1, h2⟩ := h.rows.each i q hq
    rw [hv] at h1
    cases h1
    exact next q A' (h.off i q A' c' hq hv) h2
  · have hi2 : i = L.length := by
      have := (List.getElem?_eq_some_iff.1 hq).1
      simp at this; omega
    subst hi2
    simp at hq
    subst hq
    rw [List.getElem?_append_right (by rw [h.rows.len]; exact Nat.le_refl _), h.rows.len] at hv
    simp at hv
    obtain ⟨rfl, _⟩ := hv
    exact next p A ho hH

end

/-- An append whose new row is either the old one's block or a new one. -/
theorem appR {ops : Array Oper} {rest : List Oper} {o : Oper} {a : Act} {Q : Exit → Act → World → Prop} (W : World) (t e : TypeId) (z : Value) (size bytes : Nat) (hu : Tryz.prog.underlying t = some (.slice e))
    (hinf : (Tryz.prog.info? e).map (fun i => (i.zero, i.size, i.bytes)) = some (some z, size, bytes)) (hzs : z.cells.size = size) (hsz : 0 < size) (h32 : bytes ≤ 32)
    (hgd : o.guard = none) (s x : Operand)
    (ho : o.op = .call { callee := .builtin .append, args := #[s, x], argTypes := #[t, t] })
    (base : Nat) (v : Value) (n : Nat) (xs : List Value) (hs : a.eval s = v) (hown : W.ownsRow base e size v n xs)
    (B : Nat) (A : Option Addr) (m c : Nat) (l : List Value) (hx : a.eval x = .slice A m c) (hr : Has W B size A m l) (h1 : ∀ u ∈ l, u.oneCell' = true) (N : Nat) (ys : List Value) (hN : Hid (n + m = N)) (hys : Hid (xs ++ l = ys))
    (hb : n + m ≤ 10000000) (hbase : base ≤ W.heap.size)
    (h : ∀ v' w', w'.ownsRow base e size v' N ys → Below base W w' → W.grownBy w' v.ownBlock → (v'.ownBlock = v.ownBlock ∨ v'.ownBlock = some W.heap.size) → wpList Tryz.prog ops Q rest (a.put o.dst v') w') :
    wpList Tryz.prog ops Q (o :: rest) a W := by
  obtain ⟨i0, hi, hz0, hz1, hz2⟩ := info_parts hinf
  have hbb : (n + m) * bytes ≤ 140737488355328 := Nat.le_trans (Nat.mul_le_mul hb h32) (by omega)
  refine wpList_app W hgd s x t ho base e i0 z size bytes hu hi hz0 hz1 hz2 hzs hsz v n xs hs hown B A m c l hx hr h1 (by unfold maxLen; omega) hbb hbase ?_
  intro v' w' h1 h2 h3
  rw [hN.out, hys.out] at h1
  exact h v' w' h1 (below_grown hown h2 hbase) h2 h3

theorem infoRA : (Tryz.prog.info? 45).map (fun i => (i.zero, i.size, i.bytes)) = some (some (.slice none 0 0), 1, 24) := by kernel_rfl
theorem infoRB : (Tryz.prog.info? 85).map (fun i => (i.zero, i.size, i.bytes)) = some (some (.slice none 0 0), 1, 24) := by kernel_rfl

/-- A row of one slice that has just been laid. -/
theorem lit1 (w : World) (u : Value) (e : TypeId) : (w.alloc (.cells #[u] e)).ownsRow w.heap.size e 1 (.slice (some ⟨w.heap.size, 0, none⟩) 1 1) 1 [u] :=
  own_lit w #[u] e 1 (by unfold maxLen; omega) rfl

/-- Texts of the call's own, or none, with an error's number. -/
structure TextsPost (R : Option (List (List UInt8)) × Int) (w : World) (e : Ending) (w' : World) : Prop where
  out : ∃ A n c, e = .returned (.tuple #[.slice A n c, .int .i64 R.2]) ∧ n = (R.1.getD []).length ∧ w'.ownsRow w.heap.size 9 1 (.slice A n c) n (strs (R.1.getD [])) ∧ Below w.heap.size w w'

theorem texts_no (x : Int) (w w' : World) (hb : Below w.heap.size w w') : TextsPost (none, x) w (.returned (.tuple #[.slice none 0 0, .int .i64 x])) w' := ⟨none, 0, 0, rfl, rfl, ⟨rfl, .inl ⟨rfl, rfl⟩⟩, hb⟩

theorem makeR (w : World) (n : Nat) (hn : n ≤ 1000000) :
    ∃ w', (Instr.makeSlice 40 (.int .i64 0) (.int .i64 (n : Int))).run Tryz.prog w = .ok (.slice (some ⟨w.heap.size, 0, none⟩) 0 n) w' ∧
      w'.ownsRow w.heap.size 45 1 (.slice (some ⟨w.heap.size, 0, none⟩) 0 n) 0 [] ∧ Below w.heap.size w w' := by
  obtain ⟨i0, hi, hz0, hz1, hz2⟩ := info_parts infoRA
  obtain ⟨w', h1, h2, h3⟩ := run_make_own (P := Tryz.prog) w w.heap.size 40 45 i0 (.slice none 0 0) 1 Tryz.underlying40 hi hz0 hz1 .i64 .i64 n (by rw [hz2]; omega) (by unfold maxLen; omega) (Nat.le_refl _)
  exact ⟨w', h1, h2, (Below.refl _ _).grown h3 (Nat.le_refl _) (fun g hg => by cases hg)⟩
theorem makeS (w : World) (n : Nat) (hn : n ≤ 1000000) :
    ∃ w', (Instr.makeSlice 31 (.int .i64 0) (.int .i64 (n : Int))).run Tryz.prog w = .ok (.slice (some ⟨w.heap.size, 0, none⟩) 0 n) w' ∧
      w'.ownsRow w.heap.size 9 1 (.slice (some ⟨w.heap.size, 0, none⟩) 0 n) 0 (strs []) ∧ Below w.heap.size w w' := by
  obtain ⟨i0, hi, hz0, hz1, hz2⟩ := info_parts infoS
  obtain ⟨w', h1, h2, h3⟩ := run_make_own (P := Tryz.prog) w w.heap.size 31 9 i0 (.string .empty) 1 Tryz.underlying31 hi hz0 hz1 .i64 .i64 n (by rw [hz2]; omega) (by unfold maxLen; omega) (Nat.le_refl _)
  exact ⟨w', h1, h2, (Below.refl _ _).grown h3 (Nat.le_refl _) (fun g hg => by cases hg)⟩

/-- A cell of the call's own. -/
structure Nx (w : World) (B : Nat) (v : Value) : Prop where
  c0 : w.cell? ⟨B, 0, none⟩ = some v
  lt : B < w.heap.size
  f0 : w.frozen? ⟨B, 0, none⟩ = false
theorem Nx.below {w w' : World} {B D : Nat} {v : Value} (h : Nx w B v) (hD : B < D) (hb : Below D w w') : Nx w' B v :=
  ⟨(hb.cell (p := ⟨B, 0, none⟩) hD).trans h.c0, Nat.lt_of_lt_of_le h.lt hb.size, (hb.frozen (p := ⟨B, 0, none⟩) hD).trans h.f0⟩
theorem Nx.new (w : World) (v : Value) (e : TypeId) : Nx (w.alloc (.cells #[v] e)) w.heap.size v :=
  ⟨by rw [World.cell?_alloc_at (hn := by simp)]; rfl, by simp, World.frozen?_alloc_at _ _ _ _ rfl⟩
theorem Nx.set {w : World} {B : Nat} {v : Value} (h : Nx w B v) (u : Value) : (w.setCell ⟨B, 0, none⟩ u).cell? ⟨B, 0, none⟩ = some u := World.cell?_setCell_same _ _ _ h.c0

/-- A name that is told, or an error: by the program, by the reference. -/
structure NamePost (R : Option (List (List P2)) × Int) (w : World) (e : Ending) (w' : World) : Prop where
  out : ∃ A c vs, e = .returned (.tuple #[.agg #[.slice A (R.1.getD []).length c], .int .i64 R.2]) ∧ Has w' w'.heap.size 1 A (R.1.getD []).length vs ∧ Rows2 w' w'.heap.size vs (R.1.getD []) ∧ Below w.heap.size w w'
structure RefPost (R : Option (List (List P2)) × Int) (w : World) (e : Ending) (w' : World) : Prop where
  out : ∃ A c vs, e = .returned (.tuple #[.slice A (R.1.getD []).length c, .int .i64 R.2]) ∧ Has w' w'.heap.size 1 A (R.1.getD []).length vs ∧ Rows2 w' w'.heap.size vs (R.1.getD []) ∧ Below w.heap.size w w'
theorem name_no (x : Int) (w w' : World) (hb : Below w.heap.size w w') : NamePost (none, x) w (.returned (.tuple #[.agg #[.slice none 0 0], .int .i64 x])) w' := ⟨none, 0, [], rfl, Has.nil, Rows2.nil _ _, hb⟩
theorem ref_no (x : Int) (w w' : World) (hb : Below w.heap.size w w') : RefPost (none, x) w (.returned (.tuple #[.slice none 0 0, .int .i64 x])) w' := ⟨none, 0, [], rfl, Has.nil, Rows2.nil _ _, hb⟩
theorem ref_root (w w' : World) (hb : Below w.heap.size w w') : RefPost (some [], 0) w (.returned (.tuple #[.slice none 0 0, .int .i64 0])) w' := ⟨none, 0, [], rfl, Has.nil, Rows2.nil _ _, hb⟩
theorem name_root (w w' : World) (hb : Below w.heap.size w w') : NamePost (some [], 0) w (.returned (.tuple #[.agg #[.slice none 0 0], .int .i64 0])) w' := ⟨none, 0, [], rfl, Has.nil, Rows2.nil _ _, hb⟩

end Go.Proofs.YtmidjagjgipabaaGreatDoor
