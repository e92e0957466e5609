/- Several texts in one: BerRefTake, BerLen, BerRefLen, BerField. By an AI agent. -/
import Derived.Test.YtpkedjohgmnhhaaGreatM02
import Derived.Test.YtpkedjohgmnhhaaGreatM01
set_option maxRecDepth 100000
set_option maxHeartbeats 3200000
namespace Go.Proofs.YtpkedjohgmnhhaaGreat.Ber
open Go.RowKit
set_option linter.unusedSimpArgs false
set_option linter.unusedVariables false
theorem cutLen_le (l:List UInt8):(cutLen l).2.1≤l.length∧(cutLen l).1<4294967296:=by
 cases l with
 | nil=>simp[cutLen]
 | cons f r=>
  have hf:=f.toNat_lt
  rw[cutLen,List.length_cons]
  split
  ·simp only
   omega
  ·split
   ·simp
   ·split
    ·simp
    ·have hr:=un_range (r.take (f.toNat-128)) (f.toNat-128) (by rw[List.length_take];omega)
     have hp:256 ^ (f.toNat-128)≤256 ^ 4:=Nat.pow_le_pow_right (by omega) (by omega)
     simp only
     omega
theorem headOf_le (l:List UInt8):(headOf l).1≤l.length∧(headOf l).2.1<4294967296:=by
 cases l with
 | nil=>simp[headOf]
 | cons t r=>
  have:=cutLen_le r
  rw[headOf,List.length_cons]
  split
  ·simp
  ·split
   ·simp
   ·simp only
    omega
theorem rtake_no (w:World) (A:Option Addr) (n c hh L:Nat) (err:Int) (hc:n≤c) (_hm:c≤maxLen) (hL:L<4294967296) (hh5:hh≤n)
  (H:Hid (Calls Tryz.prog 163 #[.slice A n c] w fun e w'=>e=.returned (.tuple #[.int .i64 (hh:Int),.int .i64 (L:Int),.int .i64 err])∧Below w.heap.size w w'))
  (he:(err !=0)=true∨(err=0∧n<hh+L)):
  Calls Tryz.prog 136 #[.slice A n c] w fun e w'=>e=.returned (.tuple #[.int .u8 0,.slice none 0 0,.slice none 0 0,.int .i64 (if err=0 then 5 else err)])∧Below w.heap.size w w':=by
 unfold maxLen at _hm
 rcases he with he | ⟨rfl,hlt⟩
 ·rw [if_neg (by simpa using he)]
  go_enter Tryz.func136,Tryz.ntmps136
  go_wp2_with fail
  refine H.out.mono ?_
  rintro e w1 ⟨rfl,hb⟩
  clear H
  go_wp2
  exact bodyPost_ret (results4 rfl _ _ _) rfl ⟨rfl,hb⟩
 ·rw [if_pos rfl]
  go_enter Tryz.func136,Tryz.ntmps136
  go_wp2_with fail
  refine H.out.mono ?_
  rintro e w1 ⟨rfl,hb⟩
  clear H
  go_wp2
  exact bodyPost_ret (results4 rfl _ _ _) rfl ⟨rfl,hb⟩
theorem rtake_ok (w:World) (g o n c hh L:Nat) (x:Int) (con rest:List UInt8) (hg:g<w.heap.size) (hc:n≤c) (_hm:c≤maxLen) (hn:n≤140737488351232) (h1n:1≤n) (hle:hh+L≤n)
  (H:Hid (Calls Tryz.prog 163 #[.slice (some ⟨g,o,none⟩) n c] w fun e w'=>e=.returned (.tuple #[.int .i64 (hh:Int),.int .i64 (L:Int),.int .i64 0])∧Below w.heap.size w w'))
  (H1:Hid (∀W,Below w.heap.size w W→Has W w.heap.size 1 (if c=hh then some ⟨g,o,none⟩ else some ⟨g,o+hh,none⟩) L (bys con)))
  (H2:Hid (∀W,Below w.heap.size w W→Has W w.heap.size 1 (if c=hh+L then some ⟨g,o,none⟩ else some ⟨g,o+(hh+L),none⟩) (n-(hh+L)) (bys rest)))
  (c0:w.cell? ⟨g,o,none⟩=some (.int .u8 x)):
  Calls Tryz.prog 136 #[.slice (some ⟨g,o,none⟩) n c] w fun e w'=>∃v1 v2,e=.returned (.tuple #[.int .u8 x,v1,v2,.int .i64 0])∧
   w'.ownsRow w.heap.size 5 1 v1 L (bys con)∧w'.ownsRow w.heap.size 5 1 v2 (n-(hh+L)) (bys rest)∧Below w.heap.size w w':=by
 unfold maxLen at _hm
 have hle2:(L:Int)≤(n:Int)-(hh:Int):=by omega
 go_enter Tryz.func136,Tryz.ntmps136
 go_wp2_with fail
 refine H.out.mono ?_
 rintro e w1 ⟨rfl,hbw⟩
 clear H
 have c1:w1.cell? ⟨g,o,none⟩=some (.int .u8 x):=(hbw.cell (p:=⟨g,o,none⟩) hg).trans c0
 have hs1:=hbw.size
 have hg1:g<w1.heap.size:=Nat.lt_of_lt_of_le hg hs1
 go_wp2_with fail
 have hwr:IntKind.i64.wrap ((hh:Int)+(L:Int))=(hh:Int)+(L:Int):=IntWalk.i64_in _ (by omega)
 have hnn:0≤(hh:Int)+(L:Int):=by omega
 have htn:((hh:Int)+(L:Int)).toNat=hh+L:=by omega
 have hcc:(hh:Int)+(L:Int)≤(c:Int):=by omega
 have hcn:(hh:Int)+(L:Int)≤(n:Int):=by omega
 have h0n:0<n:=by omega
 have h0i:(0:Int)<(n:Int):=by omega
 have hd:((L:Int)+hh:Int).toNat-hh=L:=by omega
 refine grow_begin_at w1.heap.size (by kernel_rfl) ?_
 have hBw2:Below w1.heap.size w1 w1.drew:=(Below.refl _ _).drew
 have hsw2:w1.heap.size≤w1.drew.heap.size:=Nat.le_refl _
 generalize w1.drew=w2 at *
 refine grow_take 0 (some 24) (v:=?va0) rfl rfl (by kernel_rfl) (by kernel_rfl) (by kernel_rfl) (fun _ _ _ h=>h) (by rfl) (fun W hW=>?ya0) ?_
 case ya0=>
  go_simp<;>with_reducible rfl
 simp only[Act.put,List.setIfInBounds_toArray,List.set_cons_zero,List.set_cons_succ]
 refine grow_take 1 (some 25) (v:=?va1) rfl rfl (by kernel_rfl) (by kernel_rfl) (by kernel_rfl) (fun _ _ _ h=>h) (by rfl) (fun W hW=>?ya1) ?_
 case ya1=>
  go_simp<;>with_reducible rfl
 simp only[Act.put,List.setIfInBounds_toArray,List.set_cons_zero,List.set_cons_succ]
 refine grow_take 2 (some 26) (v:=?va2) rfl rfl (by kernel_rfl) (by kernel_rfl) (by kernel_rfl) (fun _ _ _ h=>h) (by rfl) (fun W hW=>?ya2) ?_
 case ya2=>
  have h1:W.cell? ⟨g,o,none⟩=some (.int .u8 x):=(Below.cell (p:=⟨g,o,none⟩) (hBw2.trans hW) hg1).trans c1
  go_simp<;>with_reducible rfl
 simp only[Act.put,List.setIfInBounds_toArray,List.set_cons_zero,List.set_cons_succ]
 refine grow_take 4 (some 28) (v:=?va4) rfl rfl (by kernel_rfl) (by kernel_rfl) (by kernel_rfl) (fun _ _ _ h=>h) (by rfl) (fun W hW=>?ya4) ?_
 case ya4=>
  go_simp<;>with_reducible rfl
 simp only[Act.put,List.setIfInBounds_toArray,List.set_cons_zero,List.set_cons_succ]
 refine grow_take 5 (some 29) (v:=?va5) rfl rfl (by kernel_rfl) (by kernel_rfl) (by kernel_rfl) (fun _ _ _ h=>h) (by rfl) (fun W hW=>?ya5) ?_
 case ya5=>
  go_simp<;>with_reducible rfl
 simp only[Act.put,List.setIfInBounds_toArray,List.set_cons_zero,List.set_cons_succ]
 refine grow_take 6 (some 30) (v:=?va6) rfl rfl (by kernel_rfl) (by kernel_rfl) (by kernel_rfl) (fun _ _ _ h=>h) (by rfl) (fun W hW=>?ya6) ?_
 case ya6=>
  go_simp<;>with_reducible rfl
 simp only[Act.put,List.setIfInBounds_toArray,List.set_cons_zero,List.set_cons_succ]
 refine grow_take 7 (some 31) (v:=?va7) rfl rfl (by kernel_rfl) (by kernel_rfl) (by kernel_rfl) (fun _ _ _ h=>h) (by rfl) (fun W hW=>?ya7) ?_
 case ya7=>
  go_simp<;>with_reducible rfl
 simp only[Act.put,List.setIfInBounds_toArray,List.set_cons_zero,List.set_cons_succ]
 refine grow_take 8 (some 32) (v:=?va8) rfl rfl (by kernel_rfl) (by kernel_rfl) (by kernel_rfl) (fun _ _ _ h=>h) (by rfl) (fun W hW=>?ya8) ?_
 case ya8=>
  go_simp<;>with_reducible rfl
 simp only[Act.put,List.setIfInBounds_toArray,List.set_cons_zero,List.set_cons_succ]
 refine grow_take 9 (some 33) (v:=?va9) rfl rfl (by kernel_rfl) (by kernel_rfl) (by kernel_rfl) (fun _ _ _ h=>h) (by rfl) (fun W hW=>?ya9) ?_
 case ya9=>
  go_simp<;>with_reducible rfl
 simp only[Act.put,List.setIfInBounds_toArray,List.set_cons_zero,List.set_cons_succ]
 refine grow_take 12 (some 36) (v:=?va12) rfl rfl (by kernel_rfl) (by kernel_rfl) (by kernel_rfl) (fun _ _ _ h=>h) (by rfl) (fun W hW=>?ya12) ?_
 case ya12=>
  go_simp<;>with_reducible rfl
 simp only[Act.put,List.setIfInBounds_toArray,List.set_cons_zero,List.set_cons_succ]
 refine grow_take 13 (some 37) (v:=?va13) rfl rfl (by kernel_rfl) (by kernel_rfl) (by kernel_rfl) (fun _ _ _ h=>h) (by rfl) (fun W hW=>?ya13) ?_
 case ya13=>
  go_simp<;>with_reducible rfl
 simp only[Act.put,List.setIfInBounds_toArray,List.set_cons_zero,List.set_cons_succ]
 refine grow_take 14 (some 38) (v:=?va14) rfl rfl (by kernel_rfl) (by kernel_rfl) (by kernel_rfl) (fun _ _ _ h=>h) (by rfl) (fun W hW=>?ya14) ?_
 case ya14=>
  go_simp<;>with_reducible rfl
 simp only[Act.put,List.setIfInBounds_toArray,List.set_cons_zero,List.set_cons_succ]
 refine grow_take 15 (some 39) (v:=?va15) rfl rfl (by kernel_rfl) (by kernel_rfl) (by kernel_rfl) (fun _ _ _ h=>h) (by rfl) (fun W hW=>?ya15) ?_
 case ya15=>
  go_simp<;>with_reducible rfl
 simp only[Act.put,List.setIfInBounds_toArray,List.set_cons_zero,List.set_cons_succ]
 refine grow_take 16 (some 40) (v:=?va16) rfl rfl (by kernel_rfl) (by kernel_rfl) (by kernel_rfl) (fun _ _ _ h=>h) (by rfl) (fun W hW=>?ya16) ?_
 case ya16=>
  go_simp<;>with_reducible rfl
 simp only[Act.put,List.setIfInBounds_toArray,List.set_cons_zero,List.set_cons_succ]
 refine grow_each [3,11] (by kernel_rfl) (by simp) ?_
 refine AllG.cons rfl (fun K hK=>?_) (AllG.cons rfl (fun K hK=>?_) AllG.nil)
 ·go_simp
  have hbw3:Below w1.heap.size w2 (w2.alloc (.cells #[] 5)):=(Below.refl _ _).alloc hsw2 _
  have hoA:=none8 w2
  have hsw3:=Nat.le_trans hsw2 hbw3.size
  have hBw3:=hBw2.trans hbw3
  have hoAlt:w2.heap.size<(w2.alloc (.cells #[] 5)).heap.size:=by simp
  refine hK.out _ _ hbw3 ?_
  generalize w2.alloc (.cells #[] 5)=w3 at *
  clear hK K
  try simp only[Act.put,List.setIfInBounds_toArray,List.set_cons_zero,List.set_cons_succ]
  refine grow_each [10,11] (by kernel_rfl) (by simp) ?_
  refine AllG.cons rfl (fun K hK=>?_) (AllG.cons rfl (fun K hK=>?_) AllG.nil)
  ·have hHc:=H1.out w3 (hbw.trans (hBw3.mono hs1))
   refine step8 w3 (some 34) rfl rfl (.tmp 27) (.tmp 33) rfl w1.heap.size _ 0 [] rfl (own_base hoA hsw2) _ _ L _ _ rfl hHc (by omega) hsw3 ?_
   intro v1 w4 hoR hbw4 hat hgr
   have hsw4:=Nat.le_trans hsw3 hbw4.size
   have hBw4:=hBw3.trans hbw4
   clear hoA hat hgr hHc
   refine hK.out _ _ hbw4 ?_
   clear hK K
   try simp only[Act.put,List.setIfInBounds_toArray,List.set_cons_zero,List.set_cons_succ]
   refine grow_only 11 rfl (by kernel_rfl) (fun K hK=>?_)
   go_simp
   have hbw5:Below w1.heap.size w4 (w4.alloc (.cells #[] 5)):=(Below.refl _ _).alloc hsw4 _
   have hoB:=none8 w4
   have hoR2:=own_below hoR ((Below.refl w4.heap.size w4).alloc (Nat.le_refl _) (.cells #[] 5))
   have hoRlt:=fun g hg=>(hoR.lt g hg).2
   clear hoR
   have hsw5:=Nat.le_trans hsw4 hbw5.size
   have hBw5:=hBw4.trans hbw5
   have hoBlt:w4.heap.size<(w4.alloc (.cells #[] 5)).heap.size:=by simp
   refine hK.out _ _ hbw5 ?_
   generalize w4.alloc (.cells #[] 5)=w5 at *
   clear hK K
   try simp only[Act.put,List.setIfInBounds_toArray,List.set_cons_zero,List.set_cons_succ]
   refine grow_only 17 rfl (by kernel_rfl) (fun K hK=>?_)
   have hHc:=H2.out w5 (hbw.trans (hBw5.mono hs1))
   refine step8 w5 (some 41) rfl rfl (.tmp 35) (.tmp 40) rfl w1.heap.size _ 0 [] rfl (own_base hoB hsw4) _ _ (n-(hh+L)) _ _ rfl hHc (by omega) hsw5 ?_
   intro v2 w6 hoS hbw6 hat hgr
   have hoR:=hoR2.kept hgr (by
      cases hv:v1.ownBlock with
      | none=>exact .inl rfl
      | some g=>exact .inr (by simp only[Value.ownBlock];intro e;injection e with e;have:=hoRlt g hv;try dsimp only at e;omega))
   have hBw6:=hBw5.trans hbw6
   refine hK.out _ _ hbw6 ?_
   clear hK K
   try simp only[Act.put,List.setIfInBounds_toArray,List.set_cons_zero,List.set_cons_succ]
   refine grow_take 18 (some 2) (v:=?vac18) rfl rfl (by kernel_rfl) (by kernel_rfl) (by kernel_rfl) (fun _ _ _ h=>h) (by rfl) (fun W hW=>?yac18) ?_
   case yac18=>
    go_simp<;>with_reducible rfl
   simp only[Act.put,List.setIfInBounds_toArray,List.set_cons_zero,List.set_cons_succ]
   refine grow_take 19 (some 3) (v:=?vac19) rfl rfl (by kernel_rfl) (by kernel_rfl) (by kernel_rfl) (fun _ _ _ h=>h) (by rfl) (fun W hW=>?yac19) ?_
   case yac19=>
    go_simp<;>with_reducible rfl
   simp only[Act.put,List.setIfInBounds_toArray,List.set_cons_zero,List.set_cons_succ]
   refine grow_take 20 (some 4) (v:=?vac20) rfl rfl (by kernel_rfl) (by kernel_rfl) (by kernel_rfl) (fun _ _ _ h=>h) (by rfl) (fun W hW=>?yac20) ?_
   case yac20=>
    go_simp<;>with_reducible rfl
   simp only[Act.put,List.setIfInBounds_toArray,List.set_cons_zero,List.set_cons_succ]
   refine grow_take 21 (some 5) (v:=?vac21) rfl rfl (by kernel_rfl) (by kernel_rfl) (by kernel_rfl) (fun _ _ _ h=>h) (by rfl) (fun W hW=>?yac21) ?_
   case yac21=>
    go_simp<;>with_reducible rfl
   simp only[Act.put,List.setIfInBounds_toArray,List.set_cons_zero,List.set_cons_succ]
   refine grow_done (by kernel_rfl) ?_ _
   generalize (if c=hh then some (⟨g,o,none⟩:Addr) else some ⟨g,o+hh,none⟩)=AA
   generalize (if c=hh+L then some (⟨g,o,none⟩:Addr) else some ⟨g,o+(hh+L),none⟩)=AB
   go_wp2
   simp only[Nat.zero_add,List.nil_append] at hoR hoS
   exact bodyPost_ret (results4 rfl _ _ _) rfl ⟨_,_,rfl,own_base hoR hs1,own_base hoS hs1,hbw.trans (hBw6.mono hs1)⟩
  ·go_simp
   have hbw4:Below w1.heap.size w3 (w3.alloc (.cells #[] 5)):=(Below.refl _ _).alloc hsw3 _
   have hoB:=none8 w3
   have hoA2:=own_below hoA ((Below.refl w3.heap.size w3).alloc (Nat.le_refl _) (.cells #[] 5))
   clear hoA
   have hoA:=hoA2
   clear hoA2
   have hsw4:=Nat.le_trans hsw3 hbw4.size
   have hBw4:=hBw3.trans hbw4
   have hoBlt:w3.heap.size<(w3.alloc (.cells #[] 5)).heap.size:=by simp
   refine hK.out _ _ hbw4 ?_
   generalize w3.alloc (.cells #[] 5)=w4 at *
   clear hK K
   try simp only[Act.put,List.setIfInBounds_toArray,List.set_cons_zero,List.set_cons_succ]
   refine grow_only 10 rfl (by kernel_rfl) (fun K hK=>?_)
   have hHc:=H1.out w4 (hbw.trans (hBw4.mono hs1))
   refine step8 w4 (some 34) rfl rfl (.tmp 27) (.tmp 33) rfl w1.heap.size _ 0 [] rfl (own_base hoA hsw2) _ _ L _ _ rfl hHc (by omega) hsw4 ?_
   intro v1 w5 hoR hbw5 hat hgr
   have hoB3:=hoB.kept hgr (.inr (by simp only[Value.ownBlock];intro e;injection e with e;try dsimp only at e;omega))
   clear hoB
   have hoB:=hoB3
   clear hoB3
   have hne:v1.ownBlock≠(Value.slice (some ⟨w3.heap.size,0,none⟩) 0 0).ownBlock:=by
      rcases hat with e | e<;>rw[e]<;>simp only[Value.ownBlock]<;>intro e2<;>injection e2 with e2<;>(try dsimp only at e2)<;>omega
   have hsw5:=Nat.le_trans hsw4 hbw5.size
   have hBw5:=hBw4.trans hbw5
   clear hoA hat hgr hHc
   refine hK.out _ _ hbw5 ?_
   clear hK K
   try simp only[Act.put,List.setIfInBounds_toArray,List.set_cons_zero,List.set_cons_succ]
   refine grow_only 17 rfl (by kernel_rfl) (fun K hK=>?_)
   have hHc:=H2.out w5 (hbw.trans (hBw5.mono hs1))
   refine step8 w5 (some 41) rfl rfl (.tmp 35) (.tmp 40) rfl w1.heap.size _ 0 [] rfl (own_base hoB hsw3) _ _ (n-(hh+L)) _ _ rfl hHc (by omega) hsw5 ?_
   intro v2 w6 hoS hbw6 hat hgr
   have hoR3:=hoR.kept hgr (.inr hne)
   clear hoR
   have hoR:=hoR3
   have hBw6:=hBw5.trans hbw6
   refine hK.out _ _ hbw6 ?_
   clear hK K
   try simp only[Act.put,List.setIfInBounds_toArray,List.set_cons_zero,List.set_cons_succ]
   refine grow_take 18 (some 2) (v:=?vad18) rfl rfl (by kernel_rfl) (by kernel_rfl) (by kernel_rfl) (fun _ _ _ h=>h) (by rfl) (fun W hW=>?yad18) ?_
   case yad18=>
    go_simp<;>with_reducible rfl
   simp only[Act.put,List.setIfInBounds_toArray,List.set_cons_zero,List.set_cons_succ]
   refine grow_take 19 (some 3) (v:=?vad19) rfl rfl (by kernel_rfl) (by kernel_rfl) (by kernel_rfl) (fun _ _ _ h=>h) (by rfl) (fun W hW=>?yad19) ?_
   case yad19=>
    go_simp<;>with_reducible rfl
   simp only[Act.put,List.setIfInBounds_toArray,List.set_cons_zero,List.set_cons_succ]
   refine grow_take 20 (some 4) (v:=?vad20) rfl rfl (by kernel_rfl) (by kernel_rfl) (by kernel_rfl) (fun _ _ _ h=>h) (by rfl) (fun W hW=>?yad20) ?_
   case yad20=>
    go_simp<;>with_reducible rfl
   simp only[Act.put,List.setIfInBounds_toArray,List.set_cons_zero,List.set_cons_succ]
   refine grow_take 21 (some 5) (v:=?vad21) rfl rfl (by kernel_rfl) (by kernel_rfl) (by kernel_rfl) (fun _ _ _ h=>h) (by rfl) (fun W hW=>?yad21) ?_
   case yad21=>
    go_simp<;>with_reducible rfl
   simp only[Act.put,List.setIfInBounds_toArray,List.set_cons_zero,List.set_cons_succ]
   refine grow_done (by kernel_rfl) ?_ _
   generalize (if c=hh then some (⟨g,o,none⟩:Addr) else some ⟨g,o+hh,none⟩)=AA
   generalize (if c=hh+L then some (⟨g,o,none⟩:Addr) else some ⟨g,o+(hh+L),none⟩)=AB
   go_wp2
   simp only[Nat.zero_add,List.nil_append] at hoR hoS
   exact bodyPost_ret (results4 rfl _ _ _) rfl ⟨_,_,rfl,own_base hoR hs1,own_base hoS hs1,hbw.trans (hBw6.mono hs1)⟩
 ·go_simp
  have hbw3:Below w1.heap.size w2 (w2.alloc (.cells #[] 5)):=(Below.refl _ _).alloc hsw2 _
  have hoB:=none8 w2
  have hsw3:=Nat.le_trans hsw2 hbw3.size
  have hBw3:=hBw2.trans hbw3
  have hoBlt:w2.heap.size<(w2.alloc (.cells #[] 5)).heap.size:=by simp
  refine hK.out _ _ hbw3 ?_
  generalize w2.alloc (.cells #[] 5)=w3 at *
  clear hK K
  try simp only[Act.put,List.setIfInBounds_toArray,List.set_cons_zero,List.set_cons_succ]
  refine grow_only 3 rfl (by kernel_rfl) (fun K hK=>?_)
  go_simp
  have hbw4:Below w1.heap.size w3 (w3.alloc (.cells #[] 5)):=(Below.refl _ _).alloc hsw3 _
  have hoA:=none8 w3
  have hoB2:=own_below hoB ((Below.refl w3.heap.size w3).alloc (Nat.le_refl _) (.cells #[] 5))
  clear hoB
  have hltB:w2.heap.size<w3.heap.size:=hoBlt
  have hsw4:=Nat.le_trans hsw3 hbw4.size
  have hBw4:=hBw3.trans hbw4
  have hoAlt:w3.heap.size<(w3.alloc (.cells #[] 5)).heap.size:=by simp
  refine hK.out _ _ hbw4 ?_
  generalize w3.alloc (.cells #[] 5)=w4 at *
  clear hK K
  try simp only[Act.put,List.setIfInBounds_toArray,List.set_cons_zero,List.set_cons_succ]
  refine grow_only 10 rfl (by kernel_rfl) (fun K hK=>?_)
  have hHc:=H1.out w4 (hbw.trans (hBw4.mono hs1))
  refine step8 w4 (some 34) rfl rfl (.tmp 27) (.tmp 33) rfl w1.heap.size _ 0 [] rfl (own_base hoA hsw3) _ _ L _ _ rfl hHc (by omega) hsw4 ?_
  intro v1 w5 hoR hbw5 hat hgr
  have hoB3:=hoB2.kept hgr (.inr (by simp only[Value.ownBlock];intro e;injection e with e;try dsimp only at e;omega))
  clear hoB2
  have hoB:=hoB3
  clear hoB3
  have hne:v1.ownBlock≠(Value.slice (some ⟨w2.heap.size,0,none⟩) 0 0).ownBlock:=by
      rcases hat with e | e<;>rw[e]<;>simp only[Value.ownBlock]<;>intro e2<;>injection e2 with e2<;>(try dsimp only at e2)<;>omega
  have hsw5:=Nat.le_trans hsw4 hbw5.size
  have hBw5:=hBw4.trans hbw5
  clear hoA hat hgr hHc
  refine hK.out _ _ hbw5 ?_
  clear hK K
  try simp only[Act.put,List.setIfInBounds_toArray,List.set_cons_zero,List.set_cons_succ]
  refine grow_only 17 rfl (by kernel_rfl) (fun K hK=>?_)
  have hHc:=H2.out w5 (hbw.trans (hBw5.mono hs1))
  refine step8 w5 (some 41) rfl rfl (.tmp 35) (.tmp 40) rfl w1.heap.size _ 0 [] rfl (own_base hoB hsw2) _ _ (n-(hh+L)) _ _ rfl hHc (by omega) hsw5 ?_
  intro v2 w6 hoS hbw6 hat hgr
  have hoR3:=hoR.kept hgr (.inr hne)
  clear hoR
  have hoR:=hoR3
  have hBw6:=hBw5.trans hbw6
  refine hK.out _ _ hbw6 ?_
  clear hK K
  try simp only[Act.put,List.setIfInBounds_toArray,List.set_cons_zero,List.set_cons_succ]
  refine grow_take 18 (some 2) (v:=?vae18) rfl rfl (by kernel_rfl) (by kernel_rfl) (by kernel_rfl) (fun _ _ _ h=>h) (by rfl) (fun W hW=>?yae18) ?_
  case yae18=>
   go_simp<;>with_reducible rfl
  simp only[Act.put,List.setIfInBounds_toArray,List.set_cons_zero,List.set_cons_succ]
  refine grow_take 19 (some 3) (v:=?vae19) rfl rfl (by kernel_rfl) (by kernel_rfl) (by kernel_rfl) (fun _ _ _ h=>h) (by rfl) (fun W hW=>?yae19) ?_
  case yae19=>
   go_simp<;>with_reducible rfl
  simp only[Act.put,List.setIfInBounds_toArray,List.set_cons_zero,List.set_cons_succ]
  refine grow_take 20 (some 4) (v:=?vae20) rfl rfl (by kernel_rfl) (by kernel_rfl) (by kernel_rfl) (fun _ _ _ h=>h) (by rfl) (fun W hW=>?yae20) ?_
  case yae20=>
   go_simp<;>with_reducible rfl
  simp only[Act.put,List.setIfInBounds_toArray,List.set_cons_zero,List.set_cons_succ]
  refine grow_take 21 (some 5) (v:=?vae21) rfl rfl (by kernel_rfl) (by kernel_rfl) (by kernel_rfl) (fun _ _ _ h=>h) (by rfl) (fun W hW=>?yae21) ?_
  case yae21=>
   go_simp<;>with_reducible rfl
  simp only[Act.put,List.setIfInBounds_toArray,List.set_cons_zero,List.set_cons_succ]
  refine grow_done (by kernel_rfl) ?_ _
  generalize (if c=hh then some (⟨g,o,none⟩:Addr) else some ⟨g,o+hh,none⟩)=AA
  generalize (if c=hh+L then some (⟨g,o,none⟩:Addr) else some ⟨g,o+(hh+L),none⟩)=AB
  go_wp2
  simp only[Nat.zero_add,List.nil_append] at hoR hoS
  exact bodyPost_ret (results4 rfl _ _ _) rfl ⟨_,_,rfl,own_base hoR hs1,own_base hoS hs1,hbw.trans (hBw6.mono hs1)⟩
theorem rtake_any (w:World) (A:Option Addr) (n c:Nat) (l:List UInt8) (h:Has w w.heap.size 1 A n (bys l)) (hc:n≤c) (hm:c≤maxLen) (hn8:n≤140737488351232):
  Calls Tryz.prog 136 #[.slice A n c] w fun e w'=>∃v1 v2,e=.returned (.tuple #[.int .u8 ((takeOf l).1:Int),v1,v2,.int .i64 (takeOf l).2.2.2])∧
   w'.ownsRow w.heap.size 5 1 v1 (takeOf l).2.1.length (bys (takeOf l).2.1)∧w'.ownsRow w.heap.size 5 1 v2 (takeOf l).2.2.1.length (bys (takeOf l).2.2.1)∧Below w.heap.size w w':=by
 have hn:l.length=n:=by simpa[bys] using h.1
 have hh:=head_any w w.heap.size A n c l h hc hm
 have hhl:=headOf_le l
 have no_:∀err:Int,takeOf l=(0,[],[],if err=0 then 5 else err)→(headOf l).2.2=err→((err !=0)=true∨(err=0∧n<(headOf l).1+(headOf l).2.1))→Calls Tryz.prog 136 #[.slice A n c] w fun e w'=>∃v1 v2,e=.returned (.tuple #[.int .u8 ((takeOf l).1:Int),v1,v2,.int .i64 (takeOf l).2.2.2])∧
   w'.ownsRow w.heap.size 5 1 v1 (takeOf l).2.1.length (bys (takeOf l).2.1)∧w'.ownsRow w.heap.size 5 1 v2 (takeOf l).2.2.1.length (bys (takeOf l).2.2.1)∧Below w.heap.size w w':=by
  intro err ht he hor
  rw[ht]
  rw[he] at hh
  refine (rtake_no w A n c (headOf l).1 (headOf l).2.1 err hc hm hhl.2 (by rw[←hn];exact hhl.1) (hide hh) hor).mono ?_
  rintro e w' ⟨rfl,hb⟩
  have h0:=World.ownsRow_nil w' w.heap.size 5 1
  exact⟨_,_,rfl,h0,h0,hb⟩
 cases l with
 | nil=>exact no_ 5 rfl rfl (.inl rfl)
 | cons t r=>
  by_cases h1:t.toNat % 32=31
  ·exact no_ 2 (by rw[takeOf,if_pos h1];rfl) (by rw[headOf,if_pos h1]) (.inl rfl)
  ·by_cases h2:(cutLen r).2.2=0
   ·have e2:headOf (t::r)=(1+(cutLen r).2.1,(cutLen r).1,0):=by rw[headOf,if_neg h1,if_neg (by simpa using h2)]
    have er:cutRest r=r.drop (cutLen r).2.1:=by rw[cutRest,if_pos h2]
    have elen:(cutRest r).length=r.length-(cutLen r).2.1:=by rw[er,List.length_drop]
    have hj:=cutLen_le r
    simp only[List.length_cons] at hn
    by_cases h3:(cutRest r).length<(cutLen r).1
    ·exact no_ 0 (by rw[takeOf,if_neg h1,if_neg (by simpa using h2),if_pos h3];rfl) (by rw[e2]) (.inr ⟨rfl,by rw[e2];simp only;omega⟩)
    ·obtain ⟨g,o,rfl,hg,hcell⟩:=h.lies (by rw[bys_length];simp)
     have c0:=hcell 0 (c8 t) rfl
     simp only[c8,Nat.add_zero] at c0
     have e1:takeOf (t::r)=(t.toNat,(cutRest r).take (cutLen r).1,(cutRest r).drop (cutLen r).1,0):=by
      rw[takeOf,if_neg h1,if_neg (by simpa using h2),if_neg h3]
     rw[e1]
     rw[e2] at hh
     have l1:((cutRest r).take (cutLen r).1).length=(cutLen r).1:=by rw[List.length_take];omega
     have l2:((cutRest r).drop (cutLen r).1).length=n-(1+(cutLen r).2.1+(cutLen r).1):=by rw[List.length_drop];omega
     simp only[l1,l2]
     refine rtake_ok w g o n c (1+(cutLen r).2.1) (cutLen r).1 (t.toNat:Int) _ _ hg hc hm hn8 (by omega) (by omega) (hide hh) (hide fun W hW=>?_) (hide fun W hW=>?_) c0
     ·have hf:=((h.below hW).from_ (k:=1+(cutLen r).2.1) (cap:=c) (by omega) hc).first (k:=(cutLen r).1) (by omega)
      have e3:((bys (t::r)).drop ((1+(cutLen r).2.1)*1)).take ((cutLen r).1*1)=bys ((cutRest r).take (cutLen r).1):=by
       rw[Nat.mul_one,Nat.mul_one,bys_drop,bys_take,er,Nat.add_comm]
       rfl
      rw[e3] at hf
      simpa[Addr.add_lit] using hf
     ·have hf:=(h.below hW).from_ (k:=1+(cutLen r).2.1+(cutLen r).1) (cap:=c) (by omega) hc
      have e3:(bys (t::r)).drop ((1+(cutLen r).2.1+(cutLen r).1)*1)=bys ((cutRest r).drop (cutLen r).1):=by
       rw[Nat.mul_one,bys_drop,er,List.drop_drop,Nat.add_assoc,Nat.add_comm 1]
       rfl
      rw[e3] at hf
      simpa[Addr.add_lit] using hf
   ·exact no_ (cutLen r).2.2 (by rw[takeOf,if_neg h1,if_pos h2,if_neg h2]) (by rw[headOf,if_neg h1,if_pos h2]) (.inl (by rw[bne_iff_ne];exact h2))
end Go.Proofs.YtpkedjohgmnhhaaGreat.Ber
namespace Go.Proofs.YtpkedjohgmnhhaaGreat.Ber
open Go.RowKit
theorem len_none (n:Int) (w:World) (h:n<0∨2147483647<n):
  Calls Tryz.prog 100 #[.int .i64 n] w fun e w'=>e=.returned (.slice none 0 0)∧w=w':=by
 by_cases h0:n<0
 ·go_enter Tryz.func100,Tryz.ntmps100
  go_wp2
  go_ret
  exact⟨rfl,rfl⟩
 ·have h1:2147483647<n:=by omega
  go_enter Tryz.func100,Tryz.ntmps100
  go_wp2
  go_ret
  exact⟨rfl,rfl⟩
theorem len_small (n:Int) (w:World) (h0:0≤n) (h1:n≤127):
  Calls Tryz.prog 100 #[.int .i64 n] w fun e w'=>e=.returned (.slice (some ⟨w.heap.size,0,none⟩) 1 1)∧w.alloc (.cells #[.int .u8 n] 5)=w':=by
 go_enter Tryz.func100,Tryz.ntmps100
 go_wp2
 go_ret
 exact⟨rfl,rfl⟩
theorem len_wide_of (N W:Nat) (w:World) (h0:128≤N) (h1:N≤2147483647) (hw1:1≤W) (hw4:W≤4)
  (Hm:Hid (∀k:Nat,1≤k→k<W→(((N:Int)/2 ^ (8*k))!=0)=true)) (Hd:Hid ((((N:Int)/2 ^ (8*W))!=0)=false)):
  Calls Tryz.prog 100 #[.int .i64 N] w fun e w'=>
   ∃v,e=.returned v∧w'.ownsRow w.heap.size 5 1 v (1+W) (bys (UInt8.ofNat (128+W)::be W N))∧Below w.heap.size w w':=by
 obtain⟨i0,hi,hz0,hz1,hz2⟩:=info_parts info8
 go_enter Tryz.func100,Tryz.ntmps100
 go_wp2
 go_loop [3] (fun s=>∃k:Nat,1≤k∧k≤W∧s=.int .i64 k) (fun s=>W-(intOf s).toNat)
 case atStart=>exact⟨1,Nat.le_refl _,hw1,rfl⟩
 case round=>
  obtain⟨k,hk1,hk,rfl⟩:=hrel
  by_cases hlt:k<W
  ·have hd:=Hm.out k hk1 hlt
   go_wp2
   go_round
   case rel=>exact⟨k+1,by omega,by omega,by go_num⟩
   case measure=>simp[intOf];omega
  ·obtain rfl:k=W:=by omega
   have hd:=Hd.out
   go_wp2_with fail
   refine (high_any N k _ hw1 (by omega)).mono ?_
   rintro e w2 ⟨g,rfl,hown2,hb2⟩
   have hbw:Below w.heap.size w w2:=((Below.refl _ _).alloc (Nat.le_refl _) _).trans (hb2.mono (by simp))
   have hown1:w2.ownsRow w.heap.size 5 1 (.slice (some ⟨w.heap.size,0,none⟩) 1 1) 1 (bys [UInt8.ofNat (128+k)]):=by
    have h:=own_lit w #[.int .u8 (128+(k:Int))] 5 1 (by unfold maxLen;omega) rfl
    have e:bys [UInt8.ofNat (128+k)]=[.int .u8 (128+(k:Int))]:=by
     simp only[bys,List.map_cons,List.map_nil,c8_lit (128+k) (by omega)]
     simp
    rw[e]
    exact own_below h hb2
   go_wp2_with (at_builtin;go_must (refine wpList_app _ rfl (.tmp 25) (.tmp 29) _ rfl w.heap.size 5 i0 _ 1 1 Tryz.underlying33 hi hz0 hz1 hz2 rfl (by omega) _ 1 _ rfl hown1 w2.heap.size _ k k (bys (be k N)) rfl (Has.own hown2) (bys_one _) ?c3 ?c4 hbw.size ?_))
   case c3=>unfold maxLen;omega
   case c4=>omega
   intro v' w3 hown3 hg3 _
   have hb3:Below w.heap.size w w3:=hbw.grown hg3 hbw.size (by simp[Value.ownBlock])
   clear hown1 hown2 hb2 hbw hg3
   go_wp2
   go_ret
   exact⟨_,rfl,by simpa[bys] using hown3,hb3⟩
theorem len_any (n:Int) (w:World):
  Calls Tryz.prog 100 #[.int .i64 n] w fun e w'=>
   ∃v,e=.returned v∧w'.ownsRow w.heap.size 5 1 v (lenOf n).length (bys (lenOf n))∧Below w.heap.size w w':=by
 by_cases h:n<0∨2147483647<n
 ·refine (len_none n w h).mono ?_
  rintro e w' ⟨rfl,rfl⟩
  rw[lenOf,if_pos h]
  exact⟨_,rfl,World.ownsRow_nil _ _ _ _,Below.refl _ _⟩
 ·obtain ⟨N,rfl⟩:=Int.eq_ofNat_of_zero_le (show 0≤n by omega)
  rw[lenOf,if_neg h]
  by_cases h1:(N:Int)<128
  ·refine (len_small N w (by omega) (by omega)).mono ?_
   rintro e w' ⟨rfl,rfl⟩
   rw[if_pos h1]
   refine⟨_,rfl,?_,(Below.refl _ _).alloc (Nat.le_refl _) _⟩
   have:=own_lit w #[.int .u8 N] 5 1 (by unfold maxLen;omega) rfl
   simpa[bys,c8_lit N (by omega)] using this
  ·rw [if_neg h1]
   have hw:=wide_le N
   refine (len_wide_of N (wide N) w (by omega) (by omega) hw.1 hw.2 (hide fun k hk hlt=>?_) (hide ?_)).mono ?_
   ·have:=wide_more N k (by omega) hk hlt
    rw[bne_iff_ne]
    intro hh
    exact this (by exact_mod_cast hh)
   ·have:=wide_done N (by omega)
    rw[bne_eq_false_iff_eq]
    exact_mod_cast this
   ·rintro e w' ⟨v,rfl,hown,hb⟩
    refine⟨v,rfl,?_,hb⟩
    simpa[be_length,Nat.add_comm] using hown
end Go.Proofs.YtpkedjohgmnhhaaGreat.Ber
namespace Go.Proofs.YtpkedjohgmnhhaaGreat.Ber
open Go.RowKit
theorem rlen_none (n:Int) (w:World) (h:n<0∨2147483647<n):
  Calls Tryz.prog 118 #[.int .i64 n] w fun e w'=>e=.returned (.slice none 0 0)∧w=w':=by
 by_cases h0:n<0
 ·go_enter Tryz.func118,Tryz.ntmps118
  go_wp2
  go_ret
  exact⟨rfl,rfl⟩
 ·have h1:2147483647<n:=by omega
  go_enter Tryz.func118,Tryz.ntmps118
  go_wp2
  go_ret
  exact⟨rfl,rfl⟩
theorem rlen_small (n:Int) (w:World) (h0:0≤n) (h1:n<128):
  Calls Tryz.prog 118 #[.int .i64 n] w fun e w'=>e=.returned (.slice (some ⟨w.heap.size,0,none⟩) 1 1)∧w.alloc (.cells #[.int .u8 n] 5)=w':=by
 go_enter Tryz.func118,Tryz.ntmps118
 go_wp2
 go_ret
 exact⟨rfl,rfl⟩
theorem be_more (l:List UInt8) (h:UInt8) (j:Nat) (b:UInt8) (hb:l[j]?=some b):bys (h::l.take j)++[c8 b]=bys (h::l.take (j+1)):=by
 rw[show l.take (j+1)=l.take j++[b] by rw[List.take_add_one,hb];rfl]
 simp[bys]
theorem rlen_wide_of (N W:Nat) (h:UInt8) (w:World) (h0:128≤N) (h1:N≤2147483647) (hw1:1≤W) (hw4:W≤4)
  (Hm:Hid (∀k:Nat,1≤k→k<W→0<(N:Int)/2 ^ (8*k))) (Hd:Hid (¬0<(N:Int)/2 ^ (8*W))) (Hh:Hid (c8 h=.int .u8 (128+(W:Int)))):
  Calls Tryz.prog 118 #[.int .i64 N] w fun e w'=>
   ∃v,e=.returned v∧w'.ownsRow w.heap.size 5 1 v (1+W) (bys (h::be W N))∧Below w.heap.size w w':=by
 obtain⟨i0,hi,hz0,hz1,hz2⟩:=info_parts info8
 go_enter Tryz.func118,Tryz.ntmps118
 go_wp2
 go_loop [3] (fun s=>∃k:Nat,1≤k∧k≤W∧s=.int .i64 k) (fun s=>W-(intOf s).toNat)
 case atStart=>exact⟨1,Nat.le_refl _,hw1,rfl⟩
 case round=>
  obtain⟨k,hk1,hk,rfl⟩:=hrel
  by_cases hlt:k<W
  ·have hd:=Hm.out k hk1 hlt
   go_wp2
   go_round
   case rel=>exact⟨k+1,by omega,by omega,by go_num⟩
   case measure=>simp[intOf];omega
  ·obtain rfl:k=W:=by omega
   have hd:=Hd.out
   have hown1:=own_lit w #[.int .u8 (128+(k:Int))] 5 1 (by unfold maxLen;omega) rfl
   have E:=hide (show bys [h]=[.int .u8 (128+(k:Int))] by rw[←Hh.out];rfl)
   have hb1:Below w.heap.size w (w.alloc (.cells #[.int .u8 (128+(k:Int))] 5)):=(Below.refl _ _).alloc (Nat.le_refl _) _
   by_cases h4:k<4
   all_goals
    clear Hd Hm
    go_wp2
    go_loopw [4,5] (fun v i wr=>∃j:Nat,j≤k∧i=.int .i64 ((k:Int)-1-j)∧wr.ownsRow w.heap.size 5 1 v (1+j) (bys (h::(be k N).take j))∧Below w.heap.size w wr)
     (fun _ i _=>(intOf i+1).toNat)
    case atStart=>exact⟨0,Nat.zero_le _,by simp,by rw[List.take_zero,E.out];exact hown1,hb1⟩
    case round=>
     obtain⟨j,hj,rfl,hor,hbr⟩:=hrel
     by_cases hjk:j<k
     ·have hH:=has_one wr (.int .u8 ((N:Int)/2 ^ (8*(k-1-j)) % 256)) 5
      have hor1:=hor.alloc (.cells #[.int .u8 ((N:Int)/2 ^ (8*(k-1-j)) % 256)] 5)
      have hbr1:=hbr.alloc hbr.size (.cells #[.int .u8 ((N:Int)/2 ^ (8*(k-1-j)) % 256)] 5)
      clear hor hbr hb1 hown1
      go_wp2_with (at_builtin;go_must (refine wpList_app _ rfl (.tmp 39) (.tmp 46) _ rfl w.heap.size 5 i0 _ 1 1 Tryz.underlying33 hi hz0 hz1 hz2 rfl (by omega) _ (1+j) _ rfl hor1 _ _ 1 1 _ rfl hH (by simp[Value.oneCell']) (by unfold maxLen;omega) (by omega) hbr1.size ?_))
      intro v' w3 hown3 hg3 _
      have hb3:Below w.heap.size w w3:=hbr1.grown hg3 hbr1.size (fun g hg=>(hor1.lt g hg).1)
      rw[←c8_shr,be_more _ _ _ _ (be_get k N j hjk),Nat.add_assoc] at hown3
      clear hor1 hbr1 hg3 hH
      go_wp2
      go_roundw
      case rel=>exact⟨j+1,by omega,by go_num,hown3,hb3⟩
      case measure=>simp[intOf];omega
     ·obtain rfl:j=k:=by omega
      clear hb1 hown1
      go_wp2
      go_ret
      rw[List.take_of_length_le (by rw[be_length];exact Nat.le_refl _)] at hor
      exact⟨_,rfl,hor,hbr⟩
theorem rlen_any (n:Int) (w:World):
  Calls Tryz.prog 118 #[.int .i64 n] w fun e w'=>
   ∃v,e=.returned v∧w'.ownsRow w.heap.size 5 1 v (lenOf n).length (bys (lenOf n))∧Below w.heap.size w w':=by
 by_cases h:n<0∨2147483647<n
 ·refine (rlen_none n w h).mono ?_
  rintro e w' ⟨rfl,rfl⟩
  rw[lenOf,if_pos h]
  exact⟨_,rfl,World.ownsRow_nil _ _ _ _,Below.refl _ _⟩
 ·obtain ⟨N,rfl⟩:=Int.eq_ofNat_of_zero_le (show 0≤n by omega)
  rw[lenOf,if_neg h]
  by_cases h1:(N:Int)<128
  ·refine (rlen_small N w (by omega) (by omega)).mono ?_
   rintro e w' ⟨rfl,rfl⟩
   rw[if_pos h1]
   refine⟨_,rfl,?_,(Below.refl _ _).alloc (Nat.le_refl _) _⟩
   have:=own_lit w #[.int .u8 N] 5 1 (by unfold maxLen;omega) rfl
   simpa[bys,c8_lit N (by omega)] using this
  ·rw [if_neg h1]
   have hw:=wide_le N
   refine (rlen_wide_of N (wide N) (UInt8.ofNat (128+wide N)) w (by omega) (by omega) hw.1 hw.2 (hide fun k hk hlt=>?_) (hide ?_) (hide ?_)).mono ?_
   ·have:=wide_more N k (by omega) hk hlt
    have h2:0<N/2 ^ (8*k):=Nat.pos_of_ne_zero this
    exact_mod_cast h2
   ·have:=wide_done N (by omega)
    intro h2
    have h3:0<N/2 ^ (8*wide N):=by exact_mod_cast h2
    omega
   ·rw [c8_lit _ (by omega)]
    simp
   ·rintro e w' ⟨v,rfl,hown,hb⟩
    refine⟨v,rfl,?_,hb⟩
    simpa[be_length,Nat.add_comm] using hown
end Go.Proofs.YtpkedjohgmnhhaaGreat.Ber
namespace Go.Proofs.YtpkedjohgmnhhaaGreat.Ber
open Go.RowKit
def fieldOf (tag:UInt8) (l:List UInt8):List UInt8:=tag::(lenOf (l.length:Int)++l)
theorem lenOf_le (n:Int):(lenOf n).length≤5:=by
 unfold lenOf
 split
 ·simp
 ·split
  ·simp
  ·have:=wide_le n.toNat
   simp[be_length]
   omega
theorem fieldOf_length (tag:UInt8) (l:List UInt8):(fieldOf tag l).length=1+(lenOf (l.length:Int)).length+l.length:=by
 simp[fieldOf]
 omega
theorem field_of (tag:UInt8) (L l:List UInt8) (k:Int) (w:World) (B:Nat) (A:Option Addr) (c:Nat) (h:Has w B 1 A l.length (bys l)) (hB:B≤w.heap.size) (hn:l.length≤140737488351232) (hL:L.length≤5)
  (HX:Hid (Value.int .u8 k=c8 tag))
  (HLN:Hid (∀w:World,Calls Tryz.prog 100 #[.int .i64 (l.length:Int)] w fun e w'=>∃v,e=.returned v∧w'.ownsRow w.heap.size 5 1 v L.length (bys L)∧Below w.heap.size w w')):
  Calls Tryz.prog 62 #[.int .u8 k,.slice A l.length c] w fun e w'=>
   ∃v,e=.returned v∧w'.ownsRow w.heap.size 5 1 v (1+L.length+l.length) (bys ([tag]++L++l))∧Below w.heap.size w w':=by
 obtain⟨i0,hi,hz0,hz1,hz2⟩:=info_parts info8
 go_enter Tryz.func62,Tryz.ntmps62
 go_wp2_with fail
 refine (HLN.out _).mono ?_
 rintro e w1 ⟨v1,rfl,hown1,hb1⟩
 obtain⟨A1,c1,rfl,_,hH1⟩:=own_form hown1
 have hs1:=hb1.size
 go_wp2_with (at_make;go_must (refine wpList_make_own _ rfl _ _ 33 rfl w1.heap.size 5 i0 _ 1 Tryz.underlying33 hi hz0 hz1 .i64 .i64 _ (1+L.length+l.length) rfl rfl (by simp) (by rw[hz2];omega) (by unfold maxLen;omega) (Nat.le_refl _) ?_))
 intro w2 hown2 hg2
 have hb2:Below w1.heap.size w1 w2:=(Below.refl _ _).grown hg2 (Nat.le_refl _) (by simp)
 clear hg2 hown1
 have hH2:Has (w2.alloc (.cells #[.int .u8 k] 5)) (w2.heap.size+1) 1 (some ⟨w2.heap.size,0,none⟩) 1 (bys [tag]):=by
  have:=has_one w2 (.int .u8 k) 5
  rw[HX.out] at this ⊢
  exact this
 have hb3:=hb2.alloc hb2.size (.cells #[.int .u8 k] 5)
 have hown3:=hown2.alloc (.cells #[.int .u8 k] 5)
 have hs3:=hb3.size
 clear hown2 hb2
 go_wp2_with (at_builtin;go_must (refine app8 _ rfl (.tmp 17) (.tmp 19) rfl w1.heap.size _ 0 [] rfl hown3 _ _ 1 1 [tag] rfl hH2 (by omega) hs3 ?_))
 intro v4 w4 hown4 hb34 _
 have hb4:=hb3.trans hb34
 have hs4:=hb4.size
 have hH5:=hH1.below hb4
 clear hown3 hb3 hs3 hH2 hb34
 go_wp2_with (at_builtin;go_must (refine app8 _ rfl (.tmp 21) (.tmp 22) rfl w1.heap.size _ _ _ rfl hown4 _ _ L.length c1 L rfl hH5 (by omega) hs4 ?_))
 intro v5 w5 hown5 hb45 _
 have hb5:=hb4.trans hb45
 have hs5:=hb5.size
 have hH6:=h.below ((hb1.mono hB).trans (hb5.mono (Nat.le_trans hB hs1)))
 clear hown4 hb4 hs4 hH5 hb45
 go_wp2_with (at_builtin;go_must (refine app8 _ rfl (.tmp 24) (.tmp 25) rfl w1.heap.size _ _ _ rfl hown5 _ _ l.length c l rfl hH6 (by omega) hs5 ?_))
 intro v6 w6 hown6 hb56 _
 have hb6:=hb5.trans hb56
 clear hown5 hb5 hs5 hH6 hb56 hH1
 go_wp2
 go_ret
 refine⟨_,rfl,own_base ?_ hs1,hb1.trans (hb6.mono hs1)⟩
 simpa using hown6
theorem field_any (tag:UInt8) (w:World) (B:Nat) (A:Option Addr) (n c:Nat) (l:List UInt8) (h:Has w B 1 A n (bys l)) (hB:B≤w.heap.size) (hn:n≤140737488351232):
  Calls Tryz.prog 62 #[c8 tag,.slice A n c] w fun e w'=>
   ∃v,e=.returned v∧w'.ownsRow w.heap.size 5 1 v (fieldOf tag l).length (bys (fieldOf tag l))∧Below w.heap.size w w':=by
 obtain rfl:l.length=n:=by simpa[bys] using h.1
 rw[fieldOf_length]
 exact field_of tag (lenOf (l.length:Int)) l (tag.toNat:Int) w B A c h hB hn (lenOf_le _) (hide rfl) (hide (len_any _))
theorem rfield_of (tag:UInt8) (L l:List UInt8) (k:Int) (w:World) (B:Nat) (A:Option Addr) (c:Nat) (h:Has w B 1 A l.length (bys l)) (hB:B≤w.heap.size) (hn:l.length≤140737488351232) (hL:L.length≤5)
  (HX:Hid (Value.int .u8 k=c8 tag))
  (HLN:Hid (∀w:World,Calls Tryz.prog 118 #[.int .i64 (l.length:Int)] w fun e w'=>∃v,e=.returned v∧w'.ownsRow w.heap.size 5 1 v L.length (bys L)∧Below w.heap.size w w')):
  Calls Tryz.prog 73 #[.int .u8 k,.slice A l.length c] w fun e w'=>
   ∃v,e=.returned v∧w'.ownsRow w.heap.size 5 1 v (1+L.length+l.length) (bys ([tag]++L++l))∧Below w.heap.size w w':=by
 have hone:(w.alloc (.cells #[.int .u8 k] 5)).ownsRow w.heap.size 5 1 (.slice (some ⟨w.heap.size,0,none⟩) 1 1) 1 (bys [tag]):=by
  rw[HX.out]
  exact one8 w tag
 have hb0:Below w.heap.size w (w.alloc (.cells #[.int .u8 k] 5)):=(Below.refl _ _).alloc (Nat.le_refl _) _
 go_enter Tryz.func73,Tryz.ntmps73
 go_wp2_with fail
 refine (HLN.out _).mono ?_
 rintro e w1 ⟨v1,rfl,hown1,hb1⟩
 obtain⟨A1,c1,rfl,_,hH1⟩:=own_form hown1
 have hown2:=own_below hone hb1
 have hb2:Below w.heap.size w w1:=hb0.trans (hb1.mono (by simp))
 have hs2:=hb2.size
 clear hone hb0 hown1
 go_wp2_with (at_builtin;go_must (refine app8 _ rfl (.tmp 7) (.tmp 10) rfl w.heap.size _ 1 [tag] rfl hown2 _ _ L.length c1 L rfl hH1 (by omega) hs2 ?_))
 intro v5 w5 hown5 hb45 _
 have hb5:=hb2.trans hb45
 have hs5:=hb5.size
 have hH6:=h.below (hb5.mono hB)
 clear hown2 hb2 hs2 hH1 hb45
 go_wp2_with (at_builtin;go_must (refine app8 _ rfl (.tmp 12) (.tmp 13) rfl w.heap.size _ _ _ rfl hown5 _ _ l.length c l rfl hH6 (by omega) hs5 ?_))
 intro v6 w6 hown6 hb56 _
 have hb6:=hb5.trans hb56
 clear hown5 hb5 hs5 hH6 hb56
 go_wp2
 go_ret
 exact⟨_,rfl,hown6,hb6⟩
theorem rfield_any (tag:UInt8) (w:World) (B:Nat) (A:Option Addr) (n c:Nat) (l:List UInt8) (h:Has w B 1 A n (bys l)) (hB:B≤w.heap.size) (hn:n≤140737488351232):
  Calls Tryz.prog 73 #[c8 tag,.slice A n c] w fun e w'=>
   ∃v,e=.returned v∧w'.ownsRow w.heap.size 5 1 v (fieldOf tag l).length (bys (fieldOf tag l))∧Below w.heap.size w w':=by
 obtain rfl:l.length=n:=by simpa[bys] using h.1
 rw[fieldOf_length]
 exact rfield_of tag (lenOf (l.length:Int)) l (tag.toNat:Int) w B A c h hB hn (lenOf_le _) (hide rfl) (hide (rlen_any _))
end Go.Proofs.YtpkedjohgmnhhaaGreat.Ber
