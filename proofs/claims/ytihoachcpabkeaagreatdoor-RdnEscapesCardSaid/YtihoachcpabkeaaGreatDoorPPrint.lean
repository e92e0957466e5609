/-
  Print, by the program. By an AI agent.
-/
import Derived.Test.YtihoachcpabkeaaGreatDoorPFormA
import Derived.Test.YtihoachcpabkeaaGreatDoorPWrite
import Derived.Lib.AppendStr
namespace Go.Proofs.YtihoachcpabkeaaGreatDoor
open Go.RowKit
set_option linter.unusedVariables false

theorem prP_snoc : ∀ (l : List P2) (a : P2), prP (l ++ [a]) = if l = [] then onePr a else prP l ++ 43 :: onePr a
  | [], a => rfl
  | [b], a => by simp [prP]
  | b :: c :: r, a => by
    have ih := prP_snoc (c :: r) a
    rw [if_neg (by simp)] at ih ⊢
    rw [List.cons_append, List.cons_append, prP, ← List.cons_append, ih, prP]
    simp

theorem onePr_len {a : P2} (h : PairOk a) : (onePr a).length ≤ 700 := by
  have := h.small
  have := wr_len a.2
  unfold onePr
  rw [List.length_append, List.length_cons]
  omega
theorem prP_len : ∀ (l : List P2), (∀ a ∈ l, PairOk a) → (prP l).length ≤ 701 * l.length
  | [], _ => by simp [prP]
  | [a], h => by have := onePr_len (h a (by simp)); simp only [prP, List.length_singleton]; omega
  | a :: b :: r, h => by
    have h1 := onePr_len (h a (by simp))
    have h2 := prP_len (b :: r) fun c hc => h c (by simp only [List.mem_cons] at hc ⊢; exact Or.inr hc)
    rw [prP, List.length_append, List.length_cons, List.length_cons]
    omega

/-- A pair's box, whole. -/
structure BoxAt (w : World) (k : Nat) (U V : ByteArray) : Prop where
  heap : w.heap[k]? = some (.cells #[.string U, .string V] 43)
  lt : k < w.heap.size
theorem BoxAt.new (w : World) (U V : ByteArray) : BoxAt (w.alloc (.cells #[.string U, .string V] 43)) w.heap.size U V :=
  ⟨heap_alloc_new w _, by simp⟩
theorem BoxAt.old {w : World} {k : Nat} {U V : ByteArray} (h : BoxAt w k U V) (o : Obj) : BoxAt (w.alloc o) k U V :=
  ⟨(heap_alloc_old w o h.lt).trans h.heap, by have := h.lt; simp; omega⟩
theorem BoxAt.grown {w w' : World} {k base n : Nat} {v : Value} {xs : List Value} {U V : ByteArray} (h : BoxAt w k U V) (hown : w.ownsRow base 5 1 v n xs) (hg : w.grownBy w' v.ownBlock) : BoxAt w' k U V := by
  have hne : v.ownBlock ≠ some k := by
    intro e
    rcases hown.2 with ⟨rfl, _⟩ | ⟨g, cap, cur, rfl, _, hh, _⟩
    · cases e
    · have : g = k := by simpa [Value.ownBlock] using e
      subst this
      rw [h.heap] at hh
      have := Option.some.inj hh
      simp at this
  exact ⟨(hg.block k h.lt (fun e => hne e.symm)).trans h.heap, Nat.lt_of_lt_of_le h.lt hg.size⟩
theorem BoxAt.c0 {w : World} {k : Nat} {U V : ByteArray} (h : BoxAt w k U V) : w.cell? ⟨k, 0, none⟩ = some (.string U) := by simp [World.cell?, h.heap]
theorem BoxAt.c1 {w : World} {k : Nat} {U V : ByteArray} (h : BoxAt w k U V) : w.cell? ⟨k, 1, none⟩ = some (.string V) := by simp [World.cell?, h.heap]

theorem str_bys (s : ByteArray) : Lib.strCells s = bys s.data.toList := by simp [Lib.strCells, bys, c8]

theorem app8g {ops : Array Oper} {rest : List Oper} {o : Oper} {a : Act} {Q : Exit → Act → World → Prop} (W : World) (hgd : o.guard = none) (s x : Operand)
    (ho : o.op = .call { callee := .builtin .append, args := #[s, x], argTypes := #[47, 47] })
    (base : Nat) (v : Value) (n : Nat) (xs : List UInt8) (hs : a.eval s = v) (hown : W.ownsRow base 5 1 v n (bys xs))
    (B : Nat) (A : Option Addr) (m c : Nat) (l : List UInt8) (hx : a.eval x = .slice A m c) (hr : Has W B 1 A m (bys l)) (ys : List UInt8) (hys : Hid (xs ++ l = ys)) (hlen : Hid (n + m = ys.length))
    (hb : n + m ≤ 140737488355328) (hbase : base ≤ W.heap.size)
    (h : ∀ v' w', w'.ownsRow base 5 1 v' ys.length (bys ys) → Below base W w' → W.grownBy w' v.ownBlock → wpList Tryz.prog ops Q rest (a.put o.dst v') w') :
    wpList Tryz.prog ops Q (o :: rest) a W := by
  obtain ⟨i0, hi, hz0, hz1, hz2⟩ := info_parts info8
  refine wpList_app W hgd s x 47 ho base 5 i0 _ 1 1 Tryz.underlying47 hi hz0 hz1 hz2 rfl (by omega) v n (bys xs) hs hown B A m c (bys l) hx hr (bys_one _) (by unfold maxLen; omega) (by omega) hbase ?_
  intro v' w' h1 h2 h3
  rw [← bys_append, hys.out, hlen.out] at h1
  exact h v' w' h1 (below_grown hown h2 hbase) h2

theorem app8s {ops : Array Oper} {rest : List Oper} {o : Oper} {a : Act} {Q : Exit → Act → World → Prop} (W : World) (hgd : o.guard = none) (s x : Operand)
    (ho : o.op = .call { callee := .builtin .append, args := #[s, x], argTypes := #[47, 9] })
    (base : Nat) (v : Value) (n : Nat) (xs : List UInt8) (hs : a.eval s = v) (hown : W.ownsRow base 5 1 v n (bys xs)) (t : ByteArray) (hx : a.eval x = .string t) (ys : List UInt8) (hys : Hid (xs ++ t.data.toList = ys)) (hlen : Hid (n + t.size = ys.length))
    (hb : n + t.size ≤ 140737488355328) (hbase : base ≤ W.heap.size)
    (h : ∀ v' w', w'.ownsRow base 5 1 v' ys.length (bys ys) → Below base W w' → W.grownBy w' v.ownBlock → wpList Tryz.prog ops Q rest (a.put o.dst v') w') :
    wpList Tryz.prog ops Q (o :: rest) a W := by
  obtain ⟨i0, hi, hz0, hz1, hz2⟩ := info_parts info8
  refine Lib.wpList_append_own_string W hgd s x 47 9 ho base 5 i0 Tryz.underlying47 Tryz.underlying9 hi hz0 hz1 hz2 v n (bys xs) hs hown t hx (by unfold maxLen; omega) hb hbase ?_
  intro v' w' h1 h2 _
  rw [str_bys, ← bys_append, hys.out, hlen.out] at h1
  exact h v' w' h1 (below_grown hown h2 hbase) h2

open Classical in
/-- What a list's print is. -/
noncomputable def printV (l : List P2) : List UInt8 × Int := if PartOk l then (prP l, 0) else ([], 1)
open Classical in
theorem prV_yes {l : List P2} (h : PartOk l) : printV l = (prP l, 0) := by unfold printV; rw [if_pos h]
open Classical in
theorem prV_no {l : List P2} (h : ¬ PartOk l) : printV l = ([], 1) := by unfold printV; rw [if_neg h]

set_option maxRecDepth 100000 in
set_option maxHeartbeats 32000000 in
theorem pprint_any (w : World) (A : Option Addr) (n c : Nat) (l : List P2) (h : Has w w.heap.size 2 A n (prs l)) (hn : n ≤ 10000) (hs : ∀ a ∈ l, a.2.length ≤ 1000000) (hT : TT w) :
    Calls Tryz.prog 10 #[.slice A n c] w fun e w' => e = .returned (.tuple #[.string (txt (printV l).1), .int .i64 (printV l).2]) ∧ Below w.heap.size w w' := by
  have hF := pformed_any w A n c l h hn hs hT
  by_cases hp : PartOk l
  · rw [prV_yes hp]
    rw [partB_true hp] at hF
    have hnl := h.pairs_n
    obtain ⟨g, o, rfl, hg, hrd⟩ := h.reads (by rintro rfl; have := hp.pos; simp at this)
    obtain ⟨RV, hRV⟩ : ∃ RV, txt (prP l) = RV := ⟨_, rfl⟩
    simp only [hRV]
    have HRV := hide hRV
    have HL := hide hnl
    have HR := hide hrd
    have HP := hide hp
    have hn3 : n ≤ 3 := by have := hp.le; omega
    clear hnl h hrd hs hp hT hRV
    go_enter Tryz.func10, Tryz.ntmps10
    go_wp2_with (go_at_call 13; fail)
    refine hF.mono ?_
    rintro e w0 ⟨rfl, hb0⟩
    clear hF
    go_wp2
    go_loopg [4, 12] n (fun k s4 s12 wx => ∃ i : Nat, i + k = n ∧ s12 = .int .i64 (i : Int) ∧ wx.ownsRow w.heap.size 5 1 s4 (prP (l.take i)).length (bys (prP (l.take i))) ∧ Below w.heap.size w wx)
    case atStart => exact ⟨0, by omega, rfl, by simpa [prP, bys] using nil_own _ _ _ _, hb0⟩
    case round =>
      obtain ⟨i, hig, rfl, hor, hbr⟩ := hrel
      clear hb0
      cases gk with
      | zero =>
        obtain rfl : i = n := by omega
        have hiz : ¬ ((i : Int) < (i : Int)) := by omega
        have hl : l.take i = l := List.take_of_length_le (by rw [HL.out]; exact Nat.le_refl _)
        rw [hl] at hor
        obtain ⟨A, c, rfl, hnc, hHas⟩ := own_form hor
        have htx := txt8 wr c hHas
        rw [HRV.out] at htx
        clear hHas hor hl HL HR HP
        go_wp2
        go_ret2
        exact ⟨rfl, hbr⟩
      | succ k =>
        have hi : i < n := by omega
        have hiz : (i : Int) < (n : Int) := by omega
        obtain ⟨a, ha⟩ : ∃ a, l[i]? = some a := ⟨_, List.getElem?_eq_getElem (by rw [← HL.out]; exact hi)⟩
        have c0 := (hbr.cell (p := ⟨g, o + i * 2, none⟩) hg).trans (HR.out.fst i a ha)
        have c1 := (hbr.cell (p := ⟨g, o + i * 2 + 1, none⟩) hg).trans (HR.out.snd i a ha)
        have hok := HP.out.each a (List.mem_of_getElem? ha)
        have hsm := hok.small
        have hpl := prP_len (l.take i) fun b hb => HP.out.each b (List.mem_of_mem_take hb)
        have htl : (l.take i).length ≤ 3 := by rw [List.length_take]; omega
        have htk : l.take (i + 1) = l.take i ++ [a] := by rw [List.take_add_one, ha]; rfl
        have hnext : Hid (prP (l.take (i + 1)) = (if i = 0 then [] else prP (l.take i) ++ [43]) ++ a.1 ++ [61] ++ wrV a.2) := hide (by
          rw [htk, prP_snoc]
          by_cases h0 : i = 0
          · subst h0
            simp [onePr]
          · have hne : l.take i ≠ [] := by
              intro h
              have := congrArg List.length h
              rw [List.length_take] at this
              have h2 := HL.out
              simp only [List.length_nil] at this
              omega
            rw [if_neg hne, if_neg h0]
            simp [onePr])
        have hV := fun v0 p hp w base hbase hown => append_any (txt a.2) (by rw [txt_size]; omega) v0 p hp w base hbase hown
        simp only [txt_toList] at hV
        have hUs : (txt a.1).size ≤ 20 := by rw [txt_size]; exact hsm.1
        have hUd : (txt a.1).data.toList = a.1 := txt_toList _
        have hP0 : Hid ((prP (l.take i)).length ≤ 2103) := hide (by omega)
        generalize hU : txt a.1 = U at *
        generalize hVV : txt a.2 = V at *
        generalize wrV a.2 = Z at *
        have HUd := hide hUd
        clear ha hok hsm htl htk hU hVV hUd hpl
        have hor1 := hor.alloc (.cells #[.string U, .string V] 43)
        have hbr1 := hbr.alloc hbr.size (.cells #[.string U, .string V] 43)
        have hbx1 := BoxAt.new wr U V
        have hs1 := hbr1.size
        obtain ⟨w1, hw1⟩ : ∃ w1, wr.alloc (.cells #[.string U, .string V] 43) = w1 := ⟨_, rfl⟩
        rw [hw1] at hor1 hbr1 hbx1 hs1
        clear hor hbr
        by_cases hi0 : i = 0
        · subst hi0
          have hz : ¬ ((0 : Int) < ((0 : Nat) : Int)) := by omega
          rw [if_pos rfl] at hnext
          have hnx : Hid (prP (l.take (0 + 1)) = U.data.toList ++ [61] ++ Z) := hide (by rw [HUd.out]; have := hnext.out; simpa using this)
          have e0 : prP (l.take 0) = [] := by simp [prP]
          rw [e0] at hor1
          have c00 : wr.cell? ⟨g, o, none⟩ = some (.string U) := by simpa using c0
          have c01 : wr.cell? ⟨g, o + 1, none⟩ = some (.string V) := by simpa using c1
          clear hnext HR HL HP HRV e0 c0 c1 hP0
          obtain ⟨q, hq⟩ : ∃ q, prP (l.take (0 + 1)) = q := ⟨_, rfl⟩
          rw [hq] at hnx
          replace hq := hide hq
          obtain ⟨p3, hp3'⟩ : ∃ p3, [] ++ U.data.toList = p3 := ⟨_, rfl⟩
          obtain ⟨p4, hp4'⟩ : ∃ p4, p3 ++ [61] = p4 := ⟨_, rfl⟩
          have e3 := congrArg List.length hp3'
          have e4 := congrArg List.length hp4'
          rw [List.length_append, ← Lib.size_eq] at e3
          rw [List.length_append] at e4
          have l3 : Hid (0 + U.size = p3.length) := hide (by simpa using e3)
          have l4 : Hid (p3.length + 1 = p4.length) := hide (by rw [← e4]; rfl)
          have k4 : Hid (p4.length ≤ 2200) := hide (by have := e3; have := e4; simp only [List.length_nil, List.length_singleton] at *; omega)
          have k3 : p3.length ≤ 2200 := by have := e3; simp only [List.length_nil] at *; omega
          have hp3 := hide hp3'
          have hp4 := hide hp4'
          have hq7 : Hid (p4 ++ Z = q) := hide (by rw [hnx.out, ← hp4', ← hp3']; rfl)
          clear hp3' hp4' e3 e4 hnx
          have hor3 : w1.ownsRow w.heap.size 5 1 u4 0 (bys []) := hor1
          have hbr3 := hbr1
          have hbx3 := hbx1
          have hs3 := hbr3.size
          have d0 := hbx3.c0
          clear hor1 hbr1 hbx1 hs1
          go_wp2_with (at_builtin; go_must (refine app8s _ rfl (.tmp 22) (.tmp 24) rfl w.heap.size _ _ [] rfl hor3 U rfl p3 hp3 l3 (by omega) hs3 ?_))
          intro v4 w4 hor4 hb4 hg4
          have hbr4 := hbr3.trans hb4
          have hbx4 := hbx3.grown hor3 hg4
          have hs4 := hbr4.size
          clear hor3 hbr3 hbx3 hs3 hb4 hg4 d0
          have hone : (w4.alloc (.cells #[.int .u8 61] 5)).ownsRow w4.heap.size 5 1 (.slice (some ⟨w4.heap.size, 0, none⟩) 1 1) 1 (bys [61]) := one8 w4 61
          have hH := Has.own hone
          have hor5 := hor4.alloc (.cells #[.int .u8 61] 5)
          have hbr5 := hbr4.alloc hs4 (.cells #[.int .u8 61] 5)
          have hbx5 := hbx4.old (.cells #[.int .u8 61] 5)
          have hs5 := hbr5.size
          clear hone hor4 hbr4 hbx4 hs4
          go_wp2_with (at_builtin; go_must (refine app8g _ rfl (.tmp 26) (.tmp 27) rfl w.heap.size _ _ p3 rfl hor5 _ _ 1 1 [61] rfl hH p4 hp4 l4 (by omega) hs5 ?_))
          intro v6 w6 hor6 hb6 hg6
          have hbr6 := hbr5.trans hb6
          have hbx6 := hbx5.grown hor5 hg6
          have hs6 := hbr6.size
          have d1 := hbx6.c1
          clear hor5 hbr5 hbx5 hs5 hH hb6 hg6
          go_wp2_with (go_at_call 22; fail)
          refine (hV _ p4 (by have := k4.out; omega) _ _ hs6 hor6).mono ?_
          rintro e w7 ⟨v7, rfl, hor7, hb7⟩
          have hbr7 := hbr6.trans hb7
          rw [hq7.out] at hor7
          clear hor6 hbr6 hbx6 hs6 hb7 d1 hV
          go_wp2
          go_roundg k
          case measure => omega
          case rel => exact ⟨0 + 1, by omega, by go_num, by rw [hq.out]; exact hor7, hbr7⟩
        · have hz : ((0 : Int) < (i : Int)) := by omega
          have hnx : Hid (prP (l.take (i + 1)) = prP (l.take i) ++ [43] ++ U.data.toList ++ [61] ++ Z) := hide (by rw [HUd.out]; have := hnext.out; rwa [if_neg hi0] at this)
          clear hnext hi0 HR HL HP HRV
          generalize prP (l.take i) = p at *
          obtain ⟨q, hq⟩ : ∃ q, prP (l.take (i + 1)) = q := ⟨_, rfl⟩
          rw [hq] at hnx
          replace hq := hide hq
          obtain ⟨p2, hp2'⟩ : ∃ p2, p ++ [43] = p2 := ⟨_, rfl⟩
          have e2 := congrArg List.length hp2'
          rw [List.length_append] at e2
          have l2 : Hid (p.length + 1 = p2.length) := hide (by rw [← e2]; rfl)
          have k2 : p2.length ≤ 2104 := by have := hP0.out; have := l2.out; omega
          have hp2 := hide hp2'
          obtain ⟨p3, hp3'⟩ : ∃ p3, p2 ++ U.data.toList = p3 := ⟨_, rfl⟩
          obtain ⟨p4, hp4'⟩ : ∃ p4, p3 ++ [61] = p4 := ⟨_, rfl⟩
          have e3 := congrArg List.length hp3'
          have e4 := congrArg List.length hp4'
          rw [List.length_append, ← Lib.size_eq] at e3
          rw [List.length_append] at e4
          have l3 : Hid (p2.length + U.size = p3.length) := hide (by exact e3)
          have l4 : Hid (p3.length + 1 = p4.length) := hide (by rw [← e4]; rfl)
          have k4 : Hid (p4.length ≤ 2200) := hide (by have := e3; have := e4; simp only [List.length_singleton] at *; omega)
          have k3 : p3.length ≤ 2200 := by omega
          have hp3 := hide hp3'
          have hp4 := hide hp4'
          have hq7 : Hid (p4 ++ Z = q) := hide (by rw [hnx.out, ← hp4', ← hp3', ← hp2'])
          clear hp3' hp4' e3 e4 hnx hp2' e2
          have hone : (w1.alloc (.cells #[.int .u8 43] 5)).ownsRow w1.heap.size 5 1 (.slice (some ⟨w1.heap.size, 0, none⟩) 1 1) 1 (bys [43]) := one8 w1 43
          have hH := Has.own hone
          have hor2 := hor1.alloc (.cells #[.int .u8 43] 5)
          have hbr2 := hbr1.alloc hs1 (.cells #[.int .u8 43] 5)
          have hbx2 := hbx1.old (.cells #[.int .u8 43] 5)
          have hs2 := hbr2.size
          clear hone hor1 hbr1 hbx1 hs1
          go_wp2_with (at_builtin; go_must (refine app8g _ rfl (.tmp 19) (.tmp 20) rfl w.heap.size _ _ p rfl hor2 _ _ 1 1 [43] rfl hH p2 hp2 l2 (by have := hP0.out; omega) hs2 ?_))
          intro v3 w3 hor3 hb3 hg3
          have hbr3 := hbr2.trans hb3
          have hbx3 := hbx2.grown hor2 hg3
          have hs3 := hbr3.size
          have d0 := hbx3.c0
          clear hor2 hbr2 hbx2 hs2 hH hb3 hg3 c0 c1 hw1
          go_wp2_with (at_builtin; go_must (refine app8s _ rfl (.tmp 22) (.tmp 24) rfl w.heap.size _ _ p2 rfl hor3 U rfl p3 hp3 l3 (by have := hP0.out; omega) hs3 ?_))
          intro v4 w4 hor4 hb4 hg4
          have hbr4 := hbr3.trans hb4
          have hbx4 := hbx3.grown hor3 hg4
          have hs4 := hbr4.size
          clear hor3 hbr3 hbx3 hs3 hb4 hg4 d0
          have hone : (w4.alloc (.cells #[.int .u8 61] 5)).ownsRow w4.heap.size 5 1 (.slice (some ⟨w4.heap.size, 0, none⟩) 1 1) 1 (bys [61]) := one8 w4 61
          have hH := Has.own hone
          have hor5 := hor4.alloc (.cells #[.int .u8 61] 5)
          have hbr5 := hbr4.alloc hs4 (.cells #[.int .u8 61] 5)
          have hbx5 := hbx4.old (.cells #[.int .u8 61] 5)
          have hs5 := hbr5.size
          clear hone hor4 hbr4 hbx4 hs4
          go_wp2_with (at_builtin; go_must (refine app8g _ rfl (.tmp 26) (.tmp 27) rfl w.heap.size _ _ p3 rfl hor5 _ _ 1 1 [61] rfl hH p4 hp4 l4 (by have := hP0.out; omega) hs5 ?_))
          intro v6 w6 hor6 hb6 hg6
          have hbr6 := hbr5.trans hb6
          have hbx6 := hbx5.grown hor5 hg6
          have hs6 := hbr6.size
          have d1 := hbx6.c1
          clear hor5 hbr5 hbx5 hs5 hH hb6 hg6
          go_wp2_with (go_at_call 22; fail)
          refine (hV _ p4 (by have := k4.out; omega) _ _ hs6 hor6).mono ?_
          rintro e w7 ⟨v7, rfl, hor7, hb7⟩
          have hbr7 := hbr6.trans hb7
          rw [hq7.out] at hor7
          clear hor6 hbr6 hbx6 hs6 hb7 d1 hV
          go_wp2
          go_roundg k
          case measure => omega
          case rel => exact ⟨i + 1, by omega, by go_num, by rw [hq.out]; exact hor7, hbr7⟩
  · rw [prV_no hp]
    rw [partB_false hp] at hF
    clear h hs hp hT
    go_enter Tryz.func10, Tryz.ntmps10
    go_wp2_with (go_at_call 13; fail)
    refine hF.mono ?_
    rintro e w0 ⟨rfl, hb0⟩
    clear hF
    go_wp2
    go_ret2
    exact ⟨rfl, hb0⟩

end Go.Proofs.YtihoachcpabkeaaGreatDoor
