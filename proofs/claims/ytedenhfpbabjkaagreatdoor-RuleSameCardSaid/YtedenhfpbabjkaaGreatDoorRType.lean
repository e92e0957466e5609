/-
  Type: the type that a text names. By an AI agent.
-/
import Derived.Test.YtedenhfpbabjkaaGreatDoorRTab
import Derived.Test.YtedenhfpbabjkaaGreatDoorRLower
namespace Go.Proofs.YtedenhfpbabjkaaGreatDoor
open Go.RowKit
set_option linter.unusedVariables false

theorem tab_cell {w : World} (hT : Types w) (j : Nat) (v : Value) (hv : tabCells[j]? = some v) : w.cell? ⟨0, j, none⟩ = some v := by
  have := World.var?_cell (show Tryz.prog.globalNamed "verger/rule.types" = some 0 by kernel_rfl) hT.var j
  rw [this]
  simpa using hv

theorem typ_hit {l n : List UInt8} {s : Int} {i : Nat} (h : tab[i]? = some (n, s)) (hl : lows n = lows l) (hpre : ∀ (j : Nat) (e : List UInt8 × Int), j < i → tab[j]? = some e → lows e.1 ≠ lows l) : typ l = (n, s) := by
  have key : ∀ (t : List (List UInt8 × Int)) (i : Nat), t[i]? = some (n, s) → (∀ (j : Nat) (e : List UInt8 × Int), j < i → t[j]? = some e → lows e.1 ≠ lows l) → typL (lows l) t = (n, s) := by
    intro t
    induction t with
    | nil => intro i h; simp at h
    | cons e r ih =>
      intro i h hp
      cases i with
      | zero =>
        simp only [List.getElem?_cons_zero, Option.some.injEq] at h
        subst h
        unfold typL
        rw [if_pos hl]
      | succ i =>
        unfold typL
        rw [if_neg (hp 0 e (by omega) rfl)]
        exact ih i (by simpa using h) fun j e' hj he' => hp (j + 1) e' (by omega) (by simpa using he')
  exact key tab i h hpre

theorem typ_miss {l : List UInt8} (hpre : ∀ (j : Nat) (e : List UInt8 × Int), j < 14 → tab[j]? = some e → lows e.1 ≠ lows l) : typ l = ([], 0) := by
  have key : ∀ (t : List (List UInt8 × Int)), (∀ (j : Nat) (e : List UInt8 × Int), t[j]? = some e → lows e.1 ≠ lows l) → typL (lows l) t = ([], 0) := by
    intro t
    induction t with
    | nil => intro _; rfl
    | cons e r ih =>
      intro hp
      unfold typL
      rw [if_neg (hp 0 e rfl)]
      exact ih fun j e' he' => hp (j + 1) e' (by simpa using he')
  refine key tab fun j e he => hpre j e ?_ he
  have := (List.getElem?_eq_some_iff.1 he).1
  simpa [tab] using this

theorem below1 (w : World) (o : Obj) : Below w.heap.size w (w.alloc o) := (Below.refl _ w).alloc (Nat.le_refl _) _

/-- What a look at one entry finds. -/
structure Entry (s : ByteArray) (n : ByteArray) (b : Bool) : Prop where
  run : ∀ w, Calls Tryz.prog 35 #[.string n, .string s] w fun e w' => e = .returned (.bool b) ∧ ∃ k, w' = w.drewN k

theorem entry_of (s : ByteArray) (l : List UInt8) (h : l.length < 100) : Entry s (txt l) (decide (lows l = lows s.data.toList)) := by
  refine ⟨fun w => ?_⟩
  have hsz : (txt l).size ≤ 281474976710656 := by
    have h1 := Lib.size_eq (txt l)
    rw [txt_toList] at h1
    omega
  have := letters_any (txt l) s hsz w
  rw [txt_toList] at this
  exact this

/-- The first that fits. -/
structure First (T : List (ByteArray × Int × Bool)) (n : ByteArray) (x : Int) : Prop where
  hit : ∀ (i : Nat) (e : ByteArray × Int × Bool), T[i]? = some e → e.2.2 = true → (∀ (j : Nat) (e : ByteArray × Int × Bool), j < i → T[j]? = some e → e.2.2 = false) → e.1 = n ∧ e.2.1 = x
  miss : (∀ (j : Nat) (e : ByteArray × Int × Bool), j < 14 → T[j]? = some e → e.2.2 = false) → n = ⟨#[]⟩ ∧ x = 0

theorem run_index_tab (C : Array Value) (i : Nat) (hi : i < 14) (u v : Value) (hc : (C.toList.drop (i * 2)).take 2 = [u, v]) (w : World) :
    (Instr.index 55 (.agg C) (.int .i64 (i : Int))).run Tryz.prog w = .ok (.agg #[u, v]) w := by
  have hn : (0 : Int) ≤ (i : Int) ∧ (i : Int) < 14 := by omega
  have hI : (Tryz.prog.info? 54).map (·.size) = some 2 := by kernel_rfl
  have hS := Tryz.underlying54
  have hA := Tryz.underlying55
  cases hq : Tryz.prog.info? 54 with
  | none => simp [hq] at hI
  | some inf =>
    have hs : inf.size = 2 := by simpa [hq] using hI
    simp [Instr.index, run_underlying hA, run_underlying hS, asIntOf, hn, sizeOf, typeInfo, hq, hs, isAgg, go_sem]
    rw [if_pos hi]
    have e : C.extract (i * 2) (i * 2 + 2) = #[u, v] := by
      refine Array.ext' ?_
      rw [Array.toList_extract]
      simp only [List.extract]
      rw [show i * 2 + 2 - i * 2 = 2 by omega, hc]
    rw [e]

set_option maxRecDepth 100000 in
set_option maxHeartbeats 16000000 in
theorem type_walk (s : ByteArray) (w : World) (Cl : List Value) (T : List (ByteArray × Int × Bool)) (n : ByteArray) (x : Int) (hlen : T.length = 14)
    (hc : w.rangeAt 0 0 Cl) (hi28 : (Tryz.prog.info? 55).map (·.size) = some Cl.length)
    (hix : ∀ (i : Nat) (e : ByteArray × Int × Bool), T[i]? = some e → ∀ w, (Instr.index 55 (.agg Cl.toArray) (.int .i64 (i : Int))).run Tryz.prog w = .ok (.agg #[.string e.1, .int .i64 e.2.1]) w)
    (hE : ∀ (i : Nat) (e : ByteArray × Int × Bool), T[i]? = some e → Entry s e.1 e.2.2) (HF : First T n x) :
    Calls Tryz.prog 17 #[.string s] w fun e w' => e = .returned (.tuple #[.string n, .int .i64 x]) ∧ Below w.heap.size w w' := by
  replace hix := hide hix
  replace hE := hide hE
  replace hlen := hide hlen
  go_enter Tryz.func17, Tryz.ntmps17
  replace hi28 := hide hi28
  generalize hC : Cl.toArray = C at hix
  replace hC := hide hC
  have hld : ∀ {ops : Array Oper} {rest : List Oper} {op : Oper} {a : Act} {Q : Exit → Act → World → Prop}, op.guard = none → op.op = .load 55 (.global 0) →
      wpList Tryz.prog ops Q rest (a.put op.dst (.agg C)) w → wpList Tryz.prog ops Q (op :: rest) a w := by
    intro ops rest op a Q h1 h2 h3
    refine wpList_load_mid h1 _ _ h2 0 0 rfl Cl _ hc Tryz.underlying55 rfl hi28.out ?_
    rw [hC.out]; exact h3
  clear hi28 hc
  go_wp2_with (refine hld rfl rfl ?_)
  clear hld
  go_loopg [7] 14 (fun k s7 wx => ∃ i : Nat, i + k = 14 ∧ s7 = .int .i64 (i : Int) ∧ Below w.heap.size w wx ∧ Hid (∀ (j : Nat) (e : ByteArray × Int × Bool), j < i → T[j]? = some e → e.2.2 = false))
  case atStart => exact ⟨0, by omega, rfl, Below.refl _ _, hide fun j e hj => by omega⟩
  case round =>
    obtain ⟨i, hig, rfl, hb, hpre⟩ := hrel
    cases gk with
    | zero =>
      obtain rfl : i = 14 := by omega
      obtain ⟨rfl, rfl⟩ := HF.miss hpre.out
      clear HF hpre hix hE hlen
      go_wp2
      go_ret2
      exact ⟨rfl, hb⟩
    | succ k =>
      have hi : i < 14 := by omega
      have hiz : (i : Int) < 14 := by omega
      obtain ⟨⟨N, y, b⟩, he⟩ : ∃ e, T[i]? = some e := ⟨_, List.getElem?_eq_getElem (by rw [hlen.out]; exact hi)⟩
      have hx := hix.out i _ he
      have hr := (hE.out i _ he).run
      simp only at hx hr
      have He := hide he
      clear he hix hE hlen
      cases b with
      | true =>
        obtain ⟨h1, h2⟩ := HF.hit i _ He.out rfl hpre.out
        simp only at h1 h2
        subst h1 h2
        clear HF hpre He
        go_wp2_with (go_at_call 35; fail)
        refine (hr _).mono ?_
        rintro e w1 ⟨rfl, q, rfl⟩
        go_wp2
        go_quiet (fail)
        go_wp2
        go_ret2
        exact ⟨rfl, Below.drewN (Below.drewN (hb.trans ((below1 wr _).mono hb.size)) _) _⟩
      | false =>
        have hpre2 : Hid (∀ (j : Nat) (e : ByteArray × Int × Bool), j < i + 1 → T[j]? = some e → e.2.2 = false) := by
          refine hide fun j e hj hje => ?_
          by_cases h : j = i
          · subst h
            rw [He.out] at hje
            obtain rfl := Option.some.inj hje
            rfl
          · exact hpre.out j e (by omega) hje
        clear HF hpre He
        go_wp2_with (go_at_call 35; fail)
        refine (hr _).mono ?_
        rintro e w1 ⟨rfl, q, rfl⟩
        go_wp2
        go_roundg k
        case measure => omega
        case rel => exact ⟨i + 1, by omega, by go_num, Below.drewN (hb.trans ((below1 wr _).mono hb.size)) _, hpre2⟩

theorem txt_nil : txt [] = ⟨#[]⟩ := rfl

theorem first_typ (l : List UInt8) : First (tab.map fun e => (txt e.1, e.2, decide (lows e.1 = lows l))) (txt (typ l).1) (typ l).2 := by
  refine ⟨fun i e he hb hp => ?_, fun hp => ?_⟩
  · rw [List.getElem?_map] at he
    cases hx : tab[i]? with
    | none => rw [hx] at he; cases he
    | some d =>
      rw [hx] at he
      obtain rfl := Option.some.inj he
      have hb' : lows d.1 = lows l := by simpa using hb
      have := typ_hit (n := d.1) (s := d.2) (i := i) hx hb' fun j e hj hje => by
        have := hp j _ hj (by rw [List.getElem?_map, hje]; rfl)
        simpa using this
      rw [this]
      exact ⟨rfl, rfl⟩
  · have := typ_miss (l := l) fun j e hj hje => by
      have := hp j _ hj (by rw [List.getElem?_map, hje]; rfl)
      simpa using this
    rw [this]
    exact ⟨txt_nil, rfl⟩

theorem tab_short : ∀ e ∈ tab, e.1.length < 100 := by decide

theorem type_any (s : ByteArray) (w : World) (hT : Types w) :
    Calls Tryz.prog 17 #[.string s] w fun e w' => e = .returned (.tuple #[.string (txt (typ s.data.toList).1), .int .i64 (typ s.data.toList).2]) ∧ Below w.heap.size w w' := by
  refine type_walk s w tabCells (tab.map fun e => (txt e.1, e.2, decide (lows e.1 = lows s.data.toList))) _ _ (by simp [tab]) (fun j v hv => ?_) (by kernel_rfl) (fun i e he w => ?_) (fun i e he => ?_) (first_typ _)
  · rw [Nat.zero_add]
    exact tab_cell hT j v hv
  · rw [List.getElem?_map] at he
    cases hx : tab[i]? with
    | none => rw [hx] at he; cases he
    | some d =>
      rw [hx] at he
      obtain rfl := Option.some.inj he
      refine run_index_tab tabCells.toArray i ?_ _ _ ?_ w
      · have := (List.getElem?_eq_some_iff.1 hx).1
        simpa [tab] using this
      · have := flat_take (tab.map fun e => [Value.string (txt e.1), .int .i64 e.2]) 2 (by intro x hx; obtain ⟨e', _, rfl⟩ := List.mem_map.1 hx; rfl) i [.string (txt d.1), .int .i64 d.2] (by simp [hx])
        simpa [tabCells, List.flatMap] using this
  · rw [List.getElem?_map] at he
    cases hx : tab[i]? with
    | none => rw [hx] at he; cases he
    | some d =>
      rw [hx] at he
      obtain rfl := Option.some.inj he
      exact entry_of s d.1 (tab_short d (List.mem_of_getElem? hx))

end Go.Proofs.YtedenhfpbabjkaaGreatDoor
