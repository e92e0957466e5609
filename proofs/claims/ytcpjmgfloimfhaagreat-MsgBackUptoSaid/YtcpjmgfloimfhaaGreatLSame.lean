/- Same: two messages compared. By an AI agent. -/
import Derived.Test.YtcpjmgfloimfhaaGreatM15
import Derived.Test.YtcpjmgfloimfhaaGreatJSameT
set_option linter.unusedSimpArgs false
set_option linter.unusedVariables false
set_option maxRecDepth 100000
set_option maxHeartbeats 64000000
namespace Go.Proofs.YtcpjmgfloimfhaaGreat
open Go.RowKit
theorem same_walk (w w2:World) (p1 p2:Nat) (cx cy:Array Value) (n1 n2 t1 t2 q1 q2:Array Value) (fx fy a5 a8 a6 a7 a9 c5 c6 c7 c8 c9:Value) (b1 b2 b3 b4 b5 b6 b7 b8 b9 R:Bool)
  (Hw:Hid ((w.alloc (.cells cx 42)).alloc (.cells cy 42)=w2)) (Hp:Hid (w.heap.size=p1/\w.heap.size+1=p2)) (HB0:Hid (Below w.heap.size w w2))
  (LX:Hid (∀W,Below w2.heap.size w2 W->(loadVar 42 ⟨p1,0,none⟩).run Tryz.prog W=.ok (.agg cx) W)) (LY:Hid (∀W,Below w2.heap.size w2 W->(loadVar 42 ⟨p2,0,none⟩).run Tryz.prog W=.ok (.agg cy) W))
  (FX:Hid (∀W,Below w2.heap.size w2 W->(loadVar 39 ⟨p1,10,none⟩).run Tryz.prog W=.ok fx W)) (FY:Hid (∀W,Below w2.heap.size w2 W->(loadVar 39 ⟨p2,10,none⟩).run Tryz.prog W=.ok fy W))
  (A5:Hid (∀W,Below w2.heap.size w2 W->(loadVar 22 ⟨p1,17,none⟩).run Tryz.prog W=.ok a5 W)) (B5:Hid (∀W,Below w2.heap.size w2 W->(loadVar 22 ⟨p2,17,none⟩).run Tryz.prog W=.ok c5 W))
  (A6:Hid (∀W,Below w2.heap.size w2 W->(loadVar 26 ⟨p1,18,none⟩).run Tryz.prog W=.ok a6 W)) (B6:Hid (∀W,Below w2.heap.size w2 W->(loadVar 26 ⟨p2,18,none⟩).run Tryz.prog W=.ok c6 W))
  (A7:Hid (∀W,Below w2.heap.size w2 W->(loadVar 27 ⟨p1,19,none⟩).run Tryz.prog W=.ok a7 W)) (B7:Hid (∀W,Below w2.heap.size w2 W->(loadVar 27 ⟨p2,19,none⟩).run Tryz.prog W=.ok c7 W))
  (A8:Hid (∀W,Below w2.heap.size w2 W->(loadVar 22 ⟨p1,30,none⟩).run Tryz.prog W=.ok a8 W)) (B8:Hid (∀W,Below w2.heap.size w2 W->(loadVar 22 ⟨p2,30,none⟩).run Tryz.prog W=.ok c8 W))
  (A9:Hid (∀W,Below w2.heap.size w2 W->(loadVar 40 ⟨p1,31,none⟩).run Tryz.prog W=.ok a9 W)) (B9:Hid (∀W,Below w2.heap.size w2 W->(loadVar 40 ⟨p2,31,none⟩).run Tryz.prog W=.ok c9 W))
  (N1:Hid (∀W,Below w2.heap.size w2 W->Calls Tryz.prog 47 #[.agg cx] W fun e w'=>e=.returned (.agg n1)/\Below W.heap.size W w'))
  (N2:Hid (∀W,Below w2.heap.size w2 W->Calls Tryz.prog 47 #[.agg cy] W fun e w'=>e=.returned (.agg n2)/\Below W.heap.size W w'))
  (T1:Hid (∀W,Below w2.heap.size w2 W->Calls Tryz.prog 48 #[.agg cx] W fun e w'=>e=.returned (.agg t1)/\Below W.heap.size W w'))
  (T2:Hid (∀W,Below w2.heap.size w2 W->Calls Tryz.prog 48 #[.agg cy] W fun e w'=>e=.returned (.agg t2)/\Below W.heap.size W w'))
  (G1:Hid (∀W,Below w2.heap.size w2 W->Calls Tryz.prog 49 #[.agg cx] W fun e w'=>e=.returned (.agg q1)/\Below W.heap.size W w'))
  (G2:Hid (∀W,Below w2.heap.size w2 W->Calls Tryz.prog 49 #[.agg cy] W fun e w'=>e=.returned (.agg q2)/\Below W.heap.size W w'))
  (S4:Hid (∀W,Below w2.heap.size w2 W->Calls Tryz.prog 50 #[fx,fy] W fun e w'=>e=.returned (.bool b4)/\Below W.heap.size W w'))
  (S5:Hid (∀W,Below w2.heap.size w2 W->Calls Tryz.prog 51 #[a5,c5] W fun e w'=>e=.returned (.bool b5)/\Below W.heap.size W w'))
  (S8:Hid (∀W,Below w2.heap.size w2 W->Calls Tryz.prog 51 #[a8,c8] W fun e w'=>e=.returned (.bool b8)/\Below W.heap.size W w'))
  (S6:Hid (∀W,Below w2.heap.size w2 W->Calls Tryz.prog 52 #[a6,c6,.func (.func 53) #[] #[]] W fun e w'=>e=.returned (.bool b6)/\Below W.heap.size W w'))
  (S7:Hid (∀W,Below w2.heap.size w2 W->Calls Tryz.prog 54 #[a7,c7,.func (.func 55) #[] #[]] W fun e w'=>e=.returned (.bool b7)/\Below W.heap.size W w'))
  (S9:Hid (∀W,Below w2.heap.size w2 W->Calls Tryz.prog 56 #[a9,c9] W fun e w'=>e=.returned (.bool b9)/\Below W.heap.size W w'))
  (e1:∀W,(Op.equalIn 10000 95 (.agg n1) (.agg n2)).run Tryz.prog W=.ok b1 W) (e2:∀W,(Op.equalIn 10000 97 (.agg t1) (.agg t2)).run Tryz.prog W=.ok b2 W) (e3:∀W,(Op.equalIn 10000 99 (.agg q1) (.agg q2)).run Tryz.prog W=.ok b3 W)
  (HV1:Hid (b1=false->R=false)) (HV2:Hid (b2=false->R=false)) (HV3:Hid (b3=false->R=false)) (HV4:Hid (b4=false->R=false)) (HV5:Hid (b5=false->R=false)) (HV6:Hid (b6=false->R=false)) (HV7:Hid (b7=false->R=false)) (HV8:Hid (b8=false->R=false)) (HV9:Hid (b9=false->R=false)) (HV:Hid (b1=true->b2=true->b3=true->b4=true->b5=true->b6=true->b7=true->b8=true->b9=true->R=true)):
  Calls Tryz.prog 18 #[.agg cx,.agg cy] w fun e w'=>e=.returned (.bool R)/\Below w.heap.size w w':=by
 have HBw:=HB0
 have HB0:Hid (Below w2.heap.size w2 w2.drew):=hide (Below.refl _ _).drew
 go_enter Tryz.func18,Tryz.ntmps18
 go_upto_region 1 with fail
 rw[Hw.out]
 try rw[Hp.out.2]
 rw[Hp.out.1]
 clear Hw Hp
 refine zAs (by kernel_rfl) ?_
 generalize w2.drew=w0 at *
 refine zAa 0 (some 5) (v:=(.agg cx)) rfl rfl (by kernel_rfl) rfl (by rfl) (fun W hW=>?ys0) ?_
 case ys0=>
  exact zAd _ _ _ rfl p1 0 rfl _ (LX.out W (HB0.out.trans (Below.mono hW HB0.out.size)))
 try simp only[pU]
 refine zAa 2 (some 7) (v:=(.agg cy)) rfl rfl (by kernel_rfl) rfl (by rfl) (fun W hW=>?ys2) ?_
 case ys2=>
  exact zAd _ _ _ rfl p2 0 rfl _ (LY.out W (HB0.out.trans (Below.mono hW HB0.out.size)))
 try simp only[pU]
 refine zAc 1 rfl (by kernel_rfl) (fun K hK=>?_)
 go_simp
 refine (N1.out _ HB0.out).mono ?_
 rintro e w1 ⟨rfl,hb⟩
 have HB1:=hT HB0 hb
 refine hK.out _ _ hb ?_
 clear hK K hb
 try simp only[pU]
 refine zAc 3 rfl (by kernel_rfl) (fun K hK=>?_)
 go_simp
 refine (N2.out _ HB1.out).mono ?_
 rintro e w2 ⟨rfl,hb⟩
 have HB2:=hT HB1 hb
 refine hK.out _ _ hb ?_
 clear hK K hb
 try simp only[pU]
 refine zAa 4 (some 9) rfl rfl (by kernel_rfl) rfl (by rfl) (fun W hW=>by go_simp<;>with_reducible rfl) ?_
 try simp only[pU]
 cases b1 with
 | false=>
  obtain rfl:=HV1.out rfl
  refine zAa 5 (some 10) rfl rfl (by kernel_rfl) rfl (by rfl) (fun W hW=>by go_simp<;>with_reducible rfl) ?_
  try simp only[pU]
  refine zAb 6 (some 11) rfl rfl (by kernel_rfl) rfl (by rfl) ?_
  try simp only[pU]
  refine zAb 7 (some 12) rfl rfl (by kernel_rfl) rfl (by rfl) ?_
  try simp only[pU]
  refine zAb 8 (some 13) rfl rfl (by kernel_rfl) rfl (by rfl) ?_
  try simp only[pU]
  refine zAb 9 (some 14) rfl rfl (by kernel_rfl) rfl (by rfl) ?_
  try simp only[pU]
  refine zAb 10 (some 15) rfl rfl (by kernel_rfl) rfl (by rfl) ?_
  try simp only[pU]
  refine zAa 11 (some 16) rfl rfl (by kernel_rfl) rfl (by rfl) (fun W hW=>by go_simp<;>with_reducible rfl) ?_
  try simp only[pU]
  refine zAa 12 (some 17) rfl rfl (by kernel_rfl) rfl (by rfl) (fun W hW=>by go_simp<;>with_reducible rfl) ?_
  try simp only[pU]
  refine zAb 13 (some 18) rfl rfl (by kernel_rfl) rfl (by rfl) ?_
  try simp only[pU]
  refine zAb 14 (some 19) rfl rfl (by kernel_rfl) rfl (by rfl) ?_
  try simp only[pU]
  refine zAb 15 (some 20) rfl rfl (by kernel_rfl) rfl (by rfl) ?_
  try simp only[pU]
  refine zAb 16 (some 21) rfl rfl (by kernel_rfl) rfl (by rfl) ?_
  try simp only[pU]
  refine zAb 17 (some 22) rfl rfl (by kernel_rfl) rfl (by rfl) ?_
  try simp only[pU]
  refine zAa 18 (some 23) rfl rfl (by kernel_rfl) rfl (by rfl) (fun W hW=>by go_simp<;>with_reducible rfl) ?_
  try simp only[pU]
  refine zAa 19 (some 24) rfl rfl (by kernel_rfl) rfl (by rfl) (fun W hW=>by go_simp<;>with_reducible rfl) ?_
  try simp only[pU]
  refine zAb 20 (some 25) rfl rfl (by kernel_rfl) rfl (by rfl) ?_
  try simp only[pU]
  refine zAb 21 (some 26) rfl rfl (by kernel_rfl) rfl (by rfl) ?_
  try simp only[pU]
  refine zAb 22 (some 27) rfl rfl (by kernel_rfl) rfl (by rfl) ?_
  try simp only[pU]
  refine zAb 23 (some 28) rfl rfl (by kernel_rfl) rfl (by rfl) ?_
  try simp only[pU]
  refine zAb 24 (some 29) rfl rfl (by kernel_rfl) rfl (by rfl) ?_
  try simp only[pU]
  refine zAa 25 (some 30) rfl rfl (by kernel_rfl) rfl (by rfl) (fun W hW=>by go_simp<;>with_reducible rfl) ?_
  try simp only[pU]
  refine zAa 26 (some 31) rfl rfl (by kernel_rfl) rfl (by rfl) (fun W hW=>by go_simp<;>with_reducible rfl) ?_
  try simp only[pU]
  refine zAb 27 (some 32) rfl rfl (by kernel_rfl) rfl (by rfl) ?_
  try simp only[pU]
  refine zAb 28 (some 33) rfl rfl (by kernel_rfl) rfl (by rfl) ?_
  try simp only[pU]
  refine zAb 29 (some 34) rfl rfl (by kernel_rfl) rfl (by rfl) ?_
  try simp only[pU]
  refine zAb 30 (some 35) rfl rfl (by kernel_rfl) rfl (by rfl) ?_
  try simp only[pU]
  refine zAb 31 (some 36) rfl rfl (by kernel_rfl) rfl (by rfl) ?_
  try simp only[pU]
  refine zAa 32 (some 37) rfl rfl (by kernel_rfl) rfl (by rfl) (fun W hW=>by go_simp<;>with_reducible rfl) ?_
  try simp only[pU]
  refine zAa 33 (some 38) rfl rfl (by kernel_rfl) rfl (by rfl) (fun W hW=>by go_simp<;>with_reducible rfl) ?_
  try simp only[pU]
  refine zAb 34 (some 39) rfl rfl (by kernel_rfl) rfl (by rfl) ?_
  try simp only[pU]
  refine zAb 35 (some 40) rfl rfl (by kernel_rfl) rfl (by rfl) ?_
  try simp only[pU]
  refine zAb 36 (some 41) rfl rfl (by kernel_rfl) rfl (by rfl) ?_
  try simp only[pU]
  refine zAb 37 (some 42) rfl rfl (by kernel_rfl) rfl (by rfl) ?_
  try simp only[pU]
  refine zAb 38 (some 43) rfl rfl (by kernel_rfl) rfl (by rfl) ?_
  try simp only[pU]
  refine zAa 39 (some 44) rfl rfl (by kernel_rfl) rfl (by rfl) (fun W hW=>by go_simp<;>with_reducible rfl) ?_
  try simp only[pU]
  refine zAa 40 (some 45) rfl rfl (by kernel_rfl) rfl (by rfl) (fun W hW=>by go_simp<;>with_reducible rfl) ?_
  try simp only[pU]
  refine zAb 41 (some 46) rfl rfl (by kernel_rfl) rfl (by rfl) ?_
  try simp only[pU]
  refine zAb 42 (some 47) rfl rfl (by kernel_rfl) rfl (by rfl) ?_
  try simp only[pU]
  refine zAb 43 (some 48) rfl rfl (by kernel_rfl) rfl (by rfl) ?_
  try simp only[pU]
  refine zAb 44 (some 49) rfl rfl (by kernel_rfl) rfl (by rfl) ?_
  try simp only[pU]
  refine zAb 45 (some 50) rfl rfl (by kernel_rfl) rfl (by rfl) ?_
  try simp only[pU]
  refine zAa 46 (some 51) rfl rfl (by kernel_rfl) rfl (by rfl) (fun W hW=>by go_simp<;>with_reducible rfl) ?_
  try simp only[pU]
  refine zAa 47 (some 52) rfl rfl (by kernel_rfl) rfl (by rfl) (fun W hW=>by go_simp<;>with_reducible rfl) ?_
  try simp only[pU]
  refine zAb 48 (some 53) rfl rfl (by kernel_rfl) rfl (by rfl) ?_
  try simp only[pU]
  refine zAb 49 (some 54) rfl rfl (by kernel_rfl) rfl (by rfl) ?_
  try simp only[pU]
  refine zAb 50 (some 55) rfl rfl (by kernel_rfl) rfl (by rfl) ?_
  try simp only[pU]
  refine zAb 51 (some 56) rfl rfl (by kernel_rfl) rfl (by rfl) ?_
  try simp only[pU]
  refine zAb 52 (some 57) rfl rfl (by kernel_rfl) rfl (by rfl) ?_
  try simp only[pU]
  refine zAa 53 (some 58) rfl rfl (by kernel_rfl) rfl (by rfl) (fun W hW=>by go_simp<;>with_reducible rfl) ?_
  try simp only[pU]
  refine zAa 54 (some 59) rfl rfl (by kernel_rfl) rfl (by rfl) (fun W hW=>by go_simp<;>with_reducible rfl) ?_
  try simp only[pU]
  refine zAb 55 (some 60) rfl rfl (by kernel_rfl) rfl (by rfl) ?_
  try simp only[pU]
  refine zAb 56 (some 61) rfl rfl (by kernel_rfl) rfl (by rfl) ?_
  try simp only[pU]
  refine zAb 57 (some 62) rfl rfl (by kernel_rfl) rfl (by rfl) ?_
  try simp only[pU]
  refine zAb 58 (some 63) rfl rfl (by kernel_rfl) rfl (by rfl) ?_
  try simp only[pU]
  refine zAb 59 (some 64) rfl rfl (by kernel_rfl) rfl (by rfl) ?_
  try simp only[pU]
  refine zAa 60 (some 65) rfl rfl (by kernel_rfl) rfl (by rfl) (fun W hW=>by go_simp<;>with_reducible rfl) ?_
  try simp only[pU]
  refine zAa 61 (some 4) rfl rfl (by kernel_rfl) rfl (by rfl) (fun W hW=>by go_simp<;>with_reducible rfl) ?_
  try simp only[pU]
  refine zAi (by kernel_rfl) ?_ _
  go_wp2
  go_ret
  exact⟨rfl,HBw.out.trans (Below.mono HB2.out HBw.out.size)⟩
 | true=>
  refine zAa 5 (some 10) rfl rfl (by kernel_rfl) rfl (by rfl) (fun W hW=>by go_simp<;>with_reducible rfl) ?_
  try simp only[pU]
  refine zAa 6 (some 11) (v:=(.agg cx)) rfl rfl (by kernel_rfl) rfl (by rfl) (fun W hW=>?yst6) ?_
  case yst6=>
   exact zAd _ _ _ rfl p1 0 rfl _ (LX.out W (HB2.out.trans (Below.mono hW HB2.out.size)))
  try simp only[pU]
  refine zAa 8 (some 13) (v:=(.agg cy)) rfl rfl (by kernel_rfl) rfl (by rfl) (fun W hW=>?yst8) ?_
  case yst8=>
   exact zAd _ _ _ rfl p2 0 rfl _ (LY.out W (HB2.out.trans (Below.mono hW HB2.out.size)))
  try simp only[pU]
  refine zAc 7 rfl (by kernel_rfl) (fun K hK=>?_)
  go_simp
  refine (T1.out _ HB2.out).mono ?_
  rintro e w3 ⟨rfl,hb⟩
  have HB3:=hT HB2 hb
  refine hK.out _ _ hb ?_
  clear hK K hb
  try simp only[pU]
  refine zAc 9 rfl (by kernel_rfl) (fun K hK=>?_)
  go_simp
  refine (T2.out _ HB3.out).mono ?_
  rintro e w4 ⟨rfl,hb⟩
  have HB4:=hT HB3 hb
  refine hK.out _ _ hb ?_
  clear hK K hb
  try simp only[pU]
  refine zAa 10 (some 15) rfl rfl (by kernel_rfl) rfl (by rfl) (fun W hW=>by go_simp<;>with_reducible rfl) ?_
  try simp only[pU]
  cases b2 with
  | false=>
   obtain rfl:=HV2.out rfl
   refine zAa 11 (some 16) rfl rfl (by kernel_rfl) rfl (by rfl) (fun W hW=>by go_simp<;>with_reducible rfl) ?_
   try simp only[pU]
   refine zAa 12 (some 17) rfl rfl (by kernel_rfl) rfl (by rfl) (fun W hW=>by go_simp<;>with_reducible rfl) ?_
   try simp only[pU]
   refine zAb 13 (some 18) rfl rfl (by kernel_rfl) rfl (by rfl) ?_
   try simp only[pU]
   refine zAb 14 (some 19) rfl rfl (by kernel_rfl) rfl (by rfl) ?_
   try simp only[pU]
   refine zAb 15 (some 20) rfl rfl (by kernel_rfl) rfl (by rfl) ?_
   try simp only[pU]
   refine zAb 16 (some 21) rfl rfl (by kernel_rfl) rfl (by rfl) ?_
   try simp only[pU]
   refine zAb 17 (some 22) rfl rfl (by kernel_rfl) rfl (by rfl) ?_
   try simp only[pU]
   refine zAa 18 (some 23) rfl rfl (by kernel_rfl) rfl (by rfl) (fun W hW=>by go_simp<;>with_reducible rfl) ?_
   try simp only[pU]
   refine zAa 19 (some 24) rfl rfl (by kernel_rfl) rfl (by rfl) (fun W hW=>by go_simp<;>with_reducible rfl) ?_
   try simp only[pU]
   refine zAb 20 (some 25) rfl rfl (by kernel_rfl) rfl (by rfl) ?_
   try simp only[pU]
   refine zAb 21 (some 26) rfl rfl (by kernel_rfl) rfl (by rfl) ?_
   try simp only[pU]
   refine zAb 22 (some 27) rfl rfl (by kernel_rfl) rfl (by rfl) ?_
   try simp only[pU]
   refine zAb 23 (some 28) rfl rfl (by kernel_rfl) rfl (by rfl) ?_
   try simp only[pU]
   refine zAb 24 (some 29) rfl rfl (by kernel_rfl) rfl (by rfl) ?_
   try simp only[pU]
   refine zAa 25 (some 30) rfl rfl (by kernel_rfl) rfl (by rfl) (fun W hW=>by go_simp<;>with_reducible rfl) ?_
   try simp only[pU]
   refine zAa 26 (some 31) rfl rfl (by kernel_rfl) rfl (by rfl) (fun W hW=>by go_simp<;>with_reducible rfl) ?_
   try simp only[pU]
   refine zAb 27 (some 32) rfl rfl (by kernel_rfl) rfl (by rfl) ?_
   try simp only[pU]
   refine zAb 28 (some 33) rfl rfl (by kernel_rfl) rfl (by rfl) ?_
   try simp only[pU]
   refine zAb 29 (some 34) rfl rfl (by kernel_rfl) rfl (by rfl) ?_
   try simp only[pU]
   refine zAb 30 (some 35) rfl rfl (by kernel_rfl) rfl (by rfl) ?_
   try simp only[pU]
   refine zAb 31 (some 36) rfl rfl (by kernel_rfl) rfl (by rfl) ?_
   try simp only[pU]
   refine zAa 32 (some 37) rfl rfl (by kernel_rfl) rfl (by rfl) (fun W hW=>by go_simp<;>with_reducible rfl) ?_
   try simp only[pU]
   refine zAa 33 (some 38) rfl rfl (by kernel_rfl) rfl (by rfl) (fun W hW=>by go_simp<;>with_reducible rfl) ?_
   try simp only[pU]
   refine zAb 34 (some 39) rfl rfl (by kernel_rfl) rfl (by rfl) ?_
   try simp only[pU]
   refine zAb 35 (some 40) rfl rfl (by kernel_rfl) rfl (by rfl) ?_
   try simp only[pU]
   refine zAb 36 (some 41) rfl rfl (by kernel_rfl) rfl (by rfl) ?_
   try simp only[pU]
   refine zAb 37 (some 42) rfl rfl (by kernel_rfl) rfl (by rfl) ?_
   try simp only[pU]
   refine zAb 38 (some 43) rfl rfl (by kernel_rfl) rfl (by rfl) ?_
   try simp only[pU]
   refine zAa 39 (some 44) rfl rfl (by kernel_rfl) rfl (by rfl) (fun W hW=>by go_simp<;>with_reducible rfl) ?_
   try simp only[pU]
   refine zAa 40 (some 45) rfl rfl (by kernel_rfl) rfl (by rfl) (fun W hW=>by go_simp<;>with_reducible rfl) ?_
   try simp only[pU]
   refine zAb 41 (some 46) rfl rfl (by kernel_rfl) rfl (by rfl) ?_
   try simp only[pU]
   refine zAb 42 (some 47) rfl rfl (by kernel_rfl) rfl (by rfl) ?_
   try simp only[pU]
   refine zAb 43 (some 48) rfl rfl (by kernel_rfl) rfl (by rfl) ?_
   try simp only[pU]
   refine zAb 44 (some 49) rfl rfl (by kernel_rfl) rfl (by rfl) ?_
   try simp only[pU]
   refine zAb 45 (some 50) rfl rfl (by kernel_rfl) rfl (by rfl) ?_
   try simp only[pU]
   refine zAa 46 (some 51) rfl rfl (by kernel_rfl) rfl (by rfl) (fun W hW=>by go_simp<;>with_reducible rfl) ?_
   try simp only[pU]
   refine zAa 47 (some 52) rfl rfl (by kernel_rfl) rfl (by rfl) (fun W hW=>by go_simp<;>with_reducible rfl) ?_
   try simp only[pU]
   refine zAb 48 (some 53) rfl rfl (by kernel_rfl) rfl (by rfl) ?_
   try simp only[pU]
   refine zAb 49 (some 54) rfl rfl (by kernel_rfl) rfl (by rfl) ?_
   try simp only[pU]
   refine zAb 50 (some 55) rfl rfl (by kernel_rfl) rfl (by rfl) ?_
   try simp only[pU]
   refine zAb 51 (some 56) rfl rfl (by kernel_rfl) rfl (by rfl) ?_
   try simp only[pU]
   refine zAb 52 (some 57) rfl rfl (by kernel_rfl) rfl (by rfl) ?_
   try simp only[pU]
   refine zAa 53 (some 58) rfl rfl (by kernel_rfl) rfl (by rfl) (fun W hW=>by go_simp<;>with_reducible rfl) ?_
   try simp only[pU]
   refine zAa 54 (some 59) rfl rfl (by kernel_rfl) rfl (by rfl) (fun W hW=>by go_simp<;>with_reducible rfl) ?_
   try simp only[pU]
   refine zAb 55 (some 60) rfl rfl (by kernel_rfl) rfl (by rfl) ?_
   try simp only[pU]
   refine zAb 56 (some 61) rfl rfl (by kernel_rfl) rfl (by rfl) ?_
   try simp only[pU]
   refine zAb 57 (some 62) rfl rfl (by kernel_rfl) rfl (by rfl) ?_
   try simp only[pU]
   refine zAb 58 (some 63) rfl rfl (by kernel_rfl) rfl (by rfl) ?_
   try simp only[pU]
   refine zAb 59 (some 64) rfl rfl (by kernel_rfl) rfl (by rfl) ?_
   try simp only[pU]
   refine zAa 60 (some 65) rfl rfl (by kernel_rfl) rfl (by rfl) (fun W hW=>by go_simp<;>with_reducible rfl) ?_
   try simp only[pU]
   refine zAa 61 (some 4) rfl rfl (by kernel_rfl) rfl (by rfl) (fun W hW=>by go_simp<;>with_reducible rfl) ?_
   try simp only[pU]
   refine zAi (by kernel_rfl) ?_ _
   go_wp2
   go_ret
   exact⟨rfl,HBw.out.trans (Below.mono HB4.out HBw.out.size)⟩
  | true=>
   refine zAa 11 (some 16) rfl rfl (by kernel_rfl) rfl (by rfl) (fun W hW=>by go_simp<;>with_reducible rfl) ?_
   try simp only[pU]
   refine zAa 12 (some 17) rfl rfl (by kernel_rfl) rfl (by rfl) (fun W hW=>by go_simp<;>with_reducible rfl) ?_
   try simp only[pU]
   refine zAa 13 (some 18) (v:=(.agg cx)) rfl rfl (by kernel_rfl) rfl (by rfl) (fun W hW=>?ystt13) ?_
   case ystt13=>
    exact zAd _ _ _ rfl p1 0 rfl _ (LX.out W (HB4.out.trans (Below.mono hW HB4.out.size)))
   try simp only[pU]
   refine zAa 15 (some 20) (v:=(.agg cy)) rfl rfl (by kernel_rfl) rfl (by rfl) (fun W hW=>?ystt15) ?_
   case ystt15=>
    exact zAd _ _ _ rfl p2 0 rfl _ (LY.out W (HB4.out.trans (Below.mono hW HB4.out.size)))
   try simp only[pU]
   refine zAc 14 rfl (by kernel_rfl) (fun K hK=>?_)
   go_simp
   refine (G1.out _ HB4.out).mono ?_
   rintro e w5 ⟨rfl,hb⟩
   have HB5:=hT HB4 hb
   refine hK.out _ _ hb ?_
   clear hK K hb
   try simp only[pU]
   refine zAc 16 rfl (by kernel_rfl) (fun K hK=>?_)
   go_simp
   refine (G2.out _ HB5.out).mono ?_
   rintro e w6 ⟨rfl,hb⟩
   have HB6:=hT HB5 hb
   refine hK.out _ _ hb ?_
   clear hK K hb
   try simp only[pU]
   refine zAa 17 (some 22) rfl rfl (by kernel_rfl) rfl (by rfl) (fun W hW=>by go_simp<;>with_reducible rfl) ?_
   try simp only[pU]
   cases b3 with
   | false=>
    obtain rfl:=HV3.out rfl
    refine zAa 18 (some 23) rfl rfl (by kernel_rfl) rfl (by rfl) (fun W hW=>by go_simp<;>with_reducible rfl) ?_
    try simp only[pU]
    refine zAa 19 (some 24) rfl rfl (by kernel_rfl) rfl (by rfl) (fun W hW=>by go_simp<;>with_reducible rfl) ?_
    try simp only[pU]
    refine zAb 20 (some 25) rfl rfl (by kernel_rfl) rfl (by rfl) ?_
    try simp only[pU]
    refine zAb 21 (some 26) rfl rfl (by kernel_rfl) rfl (by rfl) ?_
    try simp only[pU]
    refine zAb 22 (some 27) rfl rfl (by kernel_rfl) rfl (by rfl) ?_
    try simp only[pU]
    refine zAb 23 (some 28) rfl rfl (by kernel_rfl) rfl (by rfl) ?_
    try simp only[pU]
    refine zAb 24 (some 29) rfl rfl (by kernel_rfl) rfl (by rfl) ?_
    try simp only[pU]
    refine zAa 25 (some 30) rfl rfl (by kernel_rfl) rfl (by rfl) (fun W hW=>by go_simp<;>with_reducible rfl) ?_
    try simp only[pU]
    refine zAa 26 (some 31) rfl rfl (by kernel_rfl) rfl (by rfl) (fun W hW=>by go_simp<;>with_reducible rfl) ?_
    try simp only[pU]
    refine zAb 27 (some 32) rfl rfl (by kernel_rfl) rfl (by rfl) ?_
    try simp only[pU]
    refine zAb 28 (some 33) rfl rfl (by kernel_rfl) rfl (by rfl) ?_
    try simp only[pU]
    refine zAb 29 (some 34) rfl rfl (by kernel_rfl) rfl (by rfl) ?_
    try simp only[pU]
    refine zAb 30 (some 35) rfl rfl (by kernel_rfl) rfl (by rfl) ?_
    try simp only[pU]
    refine zAb 31 (some 36) rfl rfl (by kernel_rfl) rfl (by rfl) ?_
    try simp only[pU]
    refine zAa 32 (some 37) rfl rfl (by kernel_rfl) rfl (by rfl) (fun W hW=>by go_simp<;>with_reducible rfl) ?_
    try simp only[pU]
    refine zAa 33 (some 38) rfl rfl (by kernel_rfl) rfl (by rfl) (fun W hW=>by go_simp<;>with_reducible rfl) ?_
    try simp only[pU]
    refine zAb 34 (some 39) rfl rfl (by kernel_rfl) rfl (by rfl) ?_
    try simp only[pU]
    refine zAb 35 (some 40) rfl rfl (by kernel_rfl) rfl (by rfl) ?_
    try simp only[pU]
    refine zAb 36 (some 41) rfl rfl (by kernel_rfl) rfl (by rfl) ?_
    try simp only[pU]
    refine zAb 37 (some 42) rfl rfl (by kernel_rfl) rfl (by rfl) ?_
    try simp only[pU]
    refine zAb 38 (some 43) rfl rfl (by kernel_rfl) rfl (by rfl) ?_
    try simp only[pU]
    refine zAa 39 (some 44) rfl rfl (by kernel_rfl) rfl (by rfl) (fun W hW=>by go_simp<;>with_reducible rfl) ?_
    try simp only[pU]
    refine zAa 40 (some 45) rfl rfl (by kernel_rfl) rfl (by rfl) (fun W hW=>by go_simp<;>with_reducible rfl) ?_
    try simp only[pU]
    refine zAb 41 (some 46) rfl rfl (by kernel_rfl) rfl (by rfl) ?_
    try simp only[pU]
    refine zAb 42 (some 47) rfl rfl (by kernel_rfl) rfl (by rfl) ?_
    try simp only[pU]
    refine zAb 43 (some 48) rfl rfl (by kernel_rfl) rfl (by rfl) ?_
    try simp only[pU]
    refine zAb 44 (some 49) rfl rfl (by kernel_rfl) rfl (by rfl) ?_
    try simp only[pU]
    refine zAb 45 (some 50) rfl rfl (by kernel_rfl) rfl (by rfl) ?_
    try simp only[pU]
    refine zAa 46 (some 51) rfl rfl (by kernel_rfl) rfl (by rfl) (fun W hW=>by go_simp<;>with_reducible rfl) ?_
    try simp only[pU]
    refine zAa 47 (some 52) rfl rfl (by kernel_rfl) rfl (by rfl) (fun W hW=>by go_simp<;>with_reducible rfl) ?_
    try simp only[pU]
    refine zAb 48 (some 53) rfl rfl (by kernel_rfl) rfl (by rfl) ?_
    try simp only[pU]
    refine zAb 49 (some 54) rfl rfl (by kernel_rfl) rfl (by rfl) ?_
    try simp only[pU]
    refine zAb 50 (some 55) rfl rfl (by kernel_rfl) rfl (by rfl) ?_
    try simp only[pU]
    refine zAb 51 (some 56) rfl rfl (by kernel_rfl) rfl (by rfl) ?_
    try simp only[pU]
    refine zAb 52 (some 57) rfl rfl (by kernel_rfl) rfl (by rfl) ?_
    try simp only[pU]
    refine zAa 53 (some 58) rfl rfl (by kernel_rfl) rfl (by rfl) (fun W hW=>by go_simp<;>with_reducible rfl) ?_
    try simp only[pU]
    refine zAa 54 (some 59) rfl rfl (by kernel_rfl) rfl (by rfl) (fun W hW=>by go_simp<;>with_reducible rfl) ?_
    try simp only[pU]
    refine zAb 55 (some 60) rfl rfl (by kernel_rfl) rfl (by rfl) ?_
    try simp only[pU]
    refine zAb 56 (some 61) rfl rfl (by kernel_rfl) rfl (by rfl) ?_
    try simp only[pU]
    refine zAb 57 (some 62) rfl rfl (by kernel_rfl) rfl (by rfl) ?_
    try simp only[pU]
    refine zAb 58 (some 63) rfl rfl (by kernel_rfl) rfl (by rfl) ?_
    try simp only[pU]
    refine zAb 59 (some 64) rfl rfl (by kernel_rfl) rfl (by rfl) ?_
    try simp only[pU]
    refine zAa 60 (some 65) rfl rfl (by kernel_rfl) rfl (by rfl) (fun W hW=>by go_simp<;>with_reducible rfl) ?_
    try simp only[pU]
    refine zAa 61 (some 4) rfl rfl (by kernel_rfl) rfl (by rfl) (fun W hW=>by go_simp<;>with_reducible rfl) ?_
    try simp only[pU]
    refine zAi (by kernel_rfl) ?_ _
    go_wp2
    go_ret
    exact⟨rfl,HBw.out.trans (Below.mono HB6.out HBw.out.size)⟩
   | true=>
    refine zAa 18 (some 23) rfl rfl (by kernel_rfl) rfl (by rfl) (fun W hW=>by go_simp<;>with_reducible rfl) ?_
    try simp only[pU]
    refine zAa 19 (some 24) rfl rfl (by kernel_rfl) rfl (by rfl) (fun W hW=>by go_simp<;>with_reducible rfl) ?_
    try simp only[pU]
    refine zAa 20 (some 25) rfl rfl (by kernel_rfl) rfl (by rfl) (fun W hW=>by go_simp<;>with_reducible rfl) ?_
    try simp only[pU]
    refine zAa 21 (some 26) (v:=fx) rfl rfl (by kernel_rfl) rfl (by rfl) (fun W hW=>?ysttt21) ?_
    case ysttt21=>
     exact zAd _ _ _ rfl p1 10 rfl _ (FX.out W (HB6.out.trans (Below.mono hW HB6.out.size)))
    try simp only[pU]
    refine zAa 22 (some 27) rfl rfl (by kernel_rfl) rfl (by rfl) (fun W hW=>by go_simp<;>with_reducible rfl) ?_
    try simp only[pU]
    refine zAa 23 (some 28) (v:=fy) rfl rfl (by kernel_rfl) rfl (by rfl) (fun W hW=>?ysttt23) ?_
    case ysttt23=>
     exact zAd _ _ _ rfl p2 10 rfl _ (FY.out W (HB6.out.trans (Below.mono hW HB6.out.size)))
    try simp only[pU]
    refine zAc 24 rfl (by kernel_rfl) (fun K hK=>?_)
    go_simp
    refine (S4.out _ HB6.out).mono ?_
    rintro e w7 ⟨rfl,hb⟩
    have HB7:=hT HB6 hb
    refine hK.out _ _ hb ?_
    clear hK K hb
    try simp only[pU]
    cases b4 with
    | false=>
     obtain rfl:=HV4.out rfl
     refine zAa 25 (some 30) rfl rfl (by kernel_rfl) rfl (by rfl) (fun W hW=>by go_simp<;>with_reducible rfl) ?_
     try simp only[pU]
     refine zAa 26 (some 31) rfl rfl (by kernel_rfl) rfl (by rfl) (fun W hW=>by go_simp<;>with_reducible rfl) ?_
     try simp only[pU]
     refine zAb 27 (some 32) rfl rfl (by kernel_rfl) rfl (by rfl) ?_
     try simp only[pU]
     refine zAb 28 (some 33) rfl rfl (by kernel_rfl) rfl (by rfl) ?_
     try simp only[pU]
     refine zAb 29 (some 34) rfl rfl (by kernel_rfl) rfl (by rfl) ?_
     try simp only[pU]
     refine zAb 30 (some 35) rfl rfl (by kernel_rfl) rfl (by rfl) ?_
     try simp only[pU]
     refine zAb 31 (some 36) rfl rfl (by kernel_rfl) rfl (by rfl) ?_
     try simp only[pU]
     refine zAa 32 (some 37) rfl rfl (by kernel_rfl) rfl (by rfl) (fun W hW=>by go_simp<;>with_reducible rfl) ?_
     try simp only[pU]
     refine zAa 33 (some 38) rfl rfl (by kernel_rfl) rfl (by rfl) (fun W hW=>by go_simp<;>with_reducible rfl) ?_
     try simp only[pU]
     refine zAb 34 (some 39) rfl rfl (by kernel_rfl) rfl (by rfl) ?_
     try simp only[pU]
     refine zAb 35 (some 40) rfl rfl (by kernel_rfl) rfl (by rfl) ?_
     try simp only[pU]
     refine zAb 36 (some 41) rfl rfl (by kernel_rfl) rfl (by rfl) ?_
     try simp only[pU]
     refine zAb 37 (some 42) rfl rfl (by kernel_rfl) rfl (by rfl) ?_
     try simp only[pU]
     refine zAb 38 (some 43) rfl rfl (by kernel_rfl) rfl (by rfl) ?_
     try simp only[pU]
     refine zAa 39 (some 44) rfl rfl (by kernel_rfl) rfl (by rfl) (fun W hW=>by go_simp<;>with_reducible rfl) ?_
     try simp only[pU]
     refine zAa 40 (some 45) rfl rfl (by kernel_rfl) rfl (by rfl) (fun W hW=>by go_simp<;>with_reducible rfl) ?_
     try simp only[pU]
     refine zAb 41 (some 46) rfl rfl (by kernel_rfl) rfl (by rfl) ?_
     try simp only[pU]
     refine zAb 42 (some 47) rfl rfl (by kernel_rfl) rfl (by rfl) ?_
     try simp only[pU]
     refine zAb 43 (some 48) rfl rfl (by kernel_rfl) rfl (by rfl) ?_
     try simp only[pU]
     refine zAb 44 (some 49) rfl rfl (by kernel_rfl) rfl (by rfl) ?_
     try simp only[pU]
     refine zAb 45 (some 50) rfl rfl (by kernel_rfl) rfl (by rfl) ?_
     try simp only[pU]
     refine zAa 46 (some 51) rfl rfl (by kernel_rfl) rfl (by rfl) (fun W hW=>by go_simp<;>with_reducible rfl) ?_
     try simp only[pU]
     refine zAa 47 (some 52) rfl rfl (by kernel_rfl) rfl (by rfl) (fun W hW=>by go_simp<;>with_reducible rfl) ?_
     try simp only[pU]
     refine zAb 48 (some 53) rfl rfl (by kernel_rfl) rfl (by rfl) ?_
     try simp only[pU]
     refine zAb 49 (some 54) rfl rfl (by kernel_rfl) rfl (by rfl) ?_
     try simp only[pU]
     refine zAb 50 (some 55) rfl rfl (by kernel_rfl) rfl (by rfl) ?_
     try simp only[pU]
     refine zAb 51 (some 56) rfl rfl (by kernel_rfl) rfl (by rfl) ?_
     try simp only[pU]
     refine zAb 52 (some 57) rfl rfl (by kernel_rfl) rfl (by rfl) ?_
     try simp only[pU]
     refine zAa 53 (some 58) rfl rfl (by kernel_rfl) rfl (by rfl) (fun W hW=>by go_simp<;>with_reducible rfl) ?_
     try simp only[pU]
     refine zAa 54 (some 59) rfl rfl (by kernel_rfl) rfl (by rfl) (fun W hW=>by go_simp<;>with_reducible rfl) ?_
     try simp only[pU]
     refine zAb 55 (some 60) rfl rfl (by kernel_rfl) rfl (by rfl) ?_
     try simp only[pU]
     refine zAb 56 (some 61) rfl rfl (by kernel_rfl) rfl (by rfl) ?_
     try simp only[pU]
     refine zAb 57 (some 62) rfl rfl (by kernel_rfl) rfl (by rfl) ?_
     try simp only[pU]
     refine zAb 58 (some 63) rfl rfl (by kernel_rfl) rfl (by rfl) ?_
     try simp only[pU]
     refine zAb 59 (some 64) rfl rfl (by kernel_rfl) rfl (by rfl) ?_
     try simp only[pU]
     refine zAa 60 (some 65) rfl rfl (by kernel_rfl) rfl (by rfl) (fun W hW=>by go_simp<;>with_reducible rfl) ?_
     try simp only[pU]
     refine zAa 61 (some 4) rfl rfl (by kernel_rfl) rfl (by rfl) (fun W hW=>by go_simp<;>with_reducible rfl) ?_
     try simp only[pU]
     refine zAi (by kernel_rfl) ?_ _
     go_wp2
     go_ret
     exact⟨rfl,HBw.out.trans (Below.mono HB7.out HBw.out.size)⟩
    | true=>
     refine zAa 25 (some 30) rfl rfl (by kernel_rfl) rfl (by rfl) (fun W hW=>by go_simp<;>with_reducible rfl) ?_
     try simp only[pU]
     refine zAa 26 (some 31) rfl rfl (by kernel_rfl) rfl (by rfl) (fun W hW=>by go_simp<;>with_reducible rfl) ?_
     try simp only[pU]
     refine zAa 27 (some 32) rfl rfl (by kernel_rfl) rfl (by rfl) (fun W hW=>by go_simp<;>with_reducible rfl) ?_
     try simp only[pU]
     refine zAa 28 (some 33) (v:=a5) rfl rfl (by kernel_rfl) rfl (by rfl) (fun W hW=>?ystttt28) ?_
     case ystttt28=>
      exact zAd _ _ _ rfl p1 17 rfl _ (A5.out W (HB7.out.trans (Below.mono hW HB7.out.size)))
     try simp only[pU]
     refine zAa 29 (some 34) rfl rfl (by kernel_rfl) rfl (by rfl) (fun W hW=>by go_simp<;>with_reducible rfl) ?_
     try simp only[pU]
     refine zAa 30 (some 35) (v:=c5) rfl rfl (by kernel_rfl) rfl (by rfl) (fun W hW=>?ystttt30) ?_
     case ystttt30=>
      exact zAd _ _ _ rfl p2 17 rfl _ (B5.out W (HB7.out.trans (Below.mono hW HB7.out.size)))
     try simp only[pU]
     refine zAc 31 rfl (by kernel_rfl) (fun K hK=>?_)
     go_simp
     refine (S5.out _ HB7.out).mono ?_
     rintro e w8 ⟨rfl,hb⟩
     have HB8:=hT HB7 hb
     refine hK.out _ _ hb ?_
     clear hK K hb
     try simp only[pU]
     cases b5 with
     | false=>
      obtain rfl:=HV5.out rfl
      refine zAa 32 (some 37) rfl rfl (by kernel_rfl) rfl (by rfl) (fun W hW=>by go_simp<;>with_reducible rfl) ?_
      try simp only[pU]
      refine zAa 33 (some 38) rfl rfl (by kernel_rfl) rfl (by rfl) (fun W hW=>by go_simp<;>with_reducible rfl) ?_
      try simp only[pU]
      refine zAb 34 (some 39) rfl rfl (by kernel_rfl) rfl (by rfl) ?_
      try simp only[pU]
      refine zAb 35 (some 40) rfl rfl (by kernel_rfl) rfl (by rfl) ?_
      try simp only[pU]
      refine zAb 36 (some 41) rfl rfl (by kernel_rfl) rfl (by rfl) ?_
      try simp only[pU]
      refine zAb 37 (some 42) rfl rfl (by kernel_rfl) rfl (by rfl) ?_
      try simp only[pU]
      refine zAb 38 (some 43) rfl rfl (by kernel_rfl) rfl (by rfl) ?_
      try simp only[pU]
      refine zAa 39 (some 44) rfl rfl (by kernel_rfl) rfl (by rfl) (fun W hW=>by go_simp<;>with_reducible rfl) ?_
      try simp only[pU]
      refine zAa 40 (some 45) rfl rfl (by kernel_rfl) rfl (by rfl) (fun W hW=>by go_simp<;>with_reducible rfl) ?_
      try simp only[pU]
      refine zAb 41 (some 46) rfl rfl (by kernel_rfl) rfl (by rfl) ?_
      try simp only[pU]
      refine zAb 42 (some 47) rfl rfl (by kernel_rfl) rfl (by rfl) ?_
      try simp only[pU]
      refine zAb 43 (some 48) rfl rfl (by kernel_rfl) rfl (by rfl) ?_
      try simp only[pU]
      refine zAb 44 (some 49) rfl rfl (by kernel_rfl) rfl (by rfl) ?_
      try simp only[pU]
      refine zAb 45 (some 50) rfl rfl (by kernel_rfl) rfl (by rfl) ?_
      try simp only[pU]
      refine zAa 46 (some 51) rfl rfl (by kernel_rfl) rfl (by rfl) (fun W hW=>by go_simp<;>with_reducible rfl) ?_
      try simp only[pU]
      refine zAa 47 (some 52) rfl rfl (by kernel_rfl) rfl (by rfl) (fun W hW=>by go_simp<;>with_reducible rfl) ?_
      try simp only[pU]
      refine zAb 48 (some 53) rfl rfl (by kernel_rfl) rfl (by rfl) ?_
      try simp only[pU]
      refine zAb 49 (some 54) rfl rfl (by kernel_rfl) rfl (by rfl) ?_
      try simp only[pU]
      refine zAb 50 (some 55) rfl rfl (by kernel_rfl) rfl (by rfl) ?_
      try simp only[pU]
      refine zAb 51 (some 56) rfl rfl (by kernel_rfl) rfl (by rfl) ?_
      try simp only[pU]
      refine zAb 52 (some 57) rfl rfl (by kernel_rfl) rfl (by rfl) ?_
      try simp only[pU]
      refine zAa 53 (some 58) rfl rfl (by kernel_rfl) rfl (by rfl) (fun W hW=>by go_simp<;>with_reducible rfl) ?_
      try simp only[pU]
      refine zAa 54 (some 59) rfl rfl (by kernel_rfl) rfl (by rfl) (fun W hW=>by go_simp<;>with_reducible rfl) ?_
      try simp only[pU]
      refine zAb 55 (some 60) rfl rfl (by kernel_rfl) rfl (by rfl) ?_
      try simp only[pU]
      refine zAb 56 (some 61) rfl rfl (by kernel_rfl) rfl (by rfl) ?_
      try simp only[pU]
      refine zAb 57 (some 62) rfl rfl (by kernel_rfl) rfl (by rfl) ?_
      try simp only[pU]
      refine zAb 58 (some 63) rfl rfl (by kernel_rfl) rfl (by rfl) ?_
      try simp only[pU]
      refine zAb 59 (some 64) rfl rfl (by kernel_rfl) rfl (by rfl) ?_
      try simp only[pU]
      refine zAa 60 (some 65) rfl rfl (by kernel_rfl) rfl (by rfl) (fun W hW=>by go_simp<;>with_reducible rfl) ?_
      try simp only[pU]
      refine zAa 61 (some 4) rfl rfl (by kernel_rfl) rfl (by rfl) (fun W hW=>by go_simp<;>with_reducible rfl) ?_
      try simp only[pU]
      refine zAi (by kernel_rfl) ?_ _
      go_wp2
      go_ret
      exact⟨rfl,HBw.out.trans (Below.mono HB8.out HBw.out.size)⟩
     | true=>
      refine zAa 32 (some 37) rfl rfl (by kernel_rfl) rfl (by rfl) (fun W hW=>by go_simp<;>with_reducible rfl) ?_
      try simp only[pU]
      refine zAa 33 (some 38) rfl rfl (by kernel_rfl) rfl (by rfl) (fun W hW=>by go_simp<;>with_reducible rfl) ?_
      try simp only[pU]
      refine zAa 34 (some 39) rfl rfl (by kernel_rfl) rfl (by rfl) (fun W hW=>by go_simp<;>with_reducible rfl) ?_
      try simp only[pU]
      refine zAa 35 (some 40) (v:=a6) rfl rfl (by kernel_rfl) rfl (by rfl) (fun W hW=>?ysttttt35) ?_
      case ysttttt35=>
       exact zAd _ _ _ rfl p1 18 rfl _ (A6.out W (HB8.out.trans (Below.mono hW HB8.out.size)))
      try simp only[pU]
      refine zAa 36 (some 41) rfl rfl (by kernel_rfl) rfl (by rfl) (fun W hW=>by go_simp<;>with_reducible rfl) ?_
      try simp only[pU]
      refine zAa 37 (some 42) (v:=c6) rfl rfl (by kernel_rfl) rfl (by rfl) (fun W hW=>?ysttttt37) ?_
      case ysttttt37=>
       exact zAd _ _ _ rfl p2 18 rfl _ (B6.out W (HB8.out.trans (Below.mono hW HB8.out.size)))
      try simp only[pU]
      refine zAc 38 rfl (by kernel_rfl) (fun K hK=>?_)
      go_simp
      refine (S6.out _ HB8.out).mono ?_
      rintro e w9 ⟨rfl,hb⟩
      have HB9:=hT HB8 hb
      refine hK.out _ _ hb ?_
      clear hK K hb
      try simp only[pU]
      cases b6 with
      | false=>
       obtain rfl:=HV6.out rfl
       refine zAa 39 (some 44) rfl rfl (by kernel_rfl) rfl (by rfl) (fun W hW=>by go_simp<;>with_reducible rfl) ?_
       try simp only[pU]
       refine zAa 40 (some 45) rfl rfl (by kernel_rfl) rfl (by rfl) (fun W hW=>by go_simp<;>with_reducible rfl) ?_
       try simp only[pU]
       refine zAb 41 (some 46) rfl rfl (by kernel_rfl) rfl (by rfl) ?_
       try simp only[pU]
       refine zAb 42 (some 47) rfl rfl (by kernel_rfl) rfl (by rfl) ?_
       try simp only[pU]
       refine zAb 43 (some 48) rfl rfl (by kernel_rfl) rfl (by rfl) ?_
       try simp only[pU]
       refine zAb 44 (some 49) rfl rfl (by kernel_rfl) rfl (by rfl) ?_
       try simp only[pU]
       refine zAb 45 (some 50) rfl rfl (by kernel_rfl) rfl (by rfl) ?_
       try simp only[pU]
       refine zAa 46 (some 51) rfl rfl (by kernel_rfl) rfl (by rfl) (fun W hW=>by go_simp<;>with_reducible rfl) ?_
       try simp only[pU]
       refine zAa 47 (some 52) rfl rfl (by kernel_rfl) rfl (by rfl) (fun W hW=>by go_simp<;>with_reducible rfl) ?_
       try simp only[pU]
       refine zAb 48 (some 53) rfl rfl (by kernel_rfl) rfl (by rfl) ?_
       try simp only[pU]
       refine zAb 49 (some 54) rfl rfl (by kernel_rfl) rfl (by rfl) ?_
       try simp only[pU]
       refine zAb 50 (some 55) rfl rfl (by kernel_rfl) rfl (by rfl) ?_
       try simp only[pU]
       refine zAb 51 (some 56) rfl rfl (by kernel_rfl) rfl (by rfl) ?_
       try simp only[pU]
       refine zAb 52 (some 57) rfl rfl (by kernel_rfl) rfl (by rfl) ?_
       try simp only[pU]
       refine zAa 53 (some 58) rfl rfl (by kernel_rfl) rfl (by rfl) (fun W hW=>by go_simp<;>with_reducible rfl) ?_
       try simp only[pU]
       refine zAa 54 (some 59) rfl rfl (by kernel_rfl) rfl (by rfl) (fun W hW=>by go_simp<;>with_reducible rfl) ?_
       try simp only[pU]
       refine zAb 55 (some 60) rfl rfl (by kernel_rfl) rfl (by rfl) ?_
       try simp only[pU]
       refine zAb 56 (some 61) rfl rfl (by kernel_rfl) rfl (by rfl) ?_
       try simp only[pU]
       refine zAb 57 (some 62) rfl rfl (by kernel_rfl) rfl (by rfl) ?_
       try simp only[pU]
       refine zAb 58 (some 63) rfl rfl (by kernel_rfl) rfl (by rfl) ?_
       try simp only[pU]
       refine zAb 59 (some 64) rfl rfl (by kernel_rfl) rfl (by rfl) ?_
       try simp only[pU]
       refine zAa 60 (some 65) rfl rfl (by kernel_rfl) rfl (by rfl) (fun W hW=>by go_simp<;>with_reducible rfl) ?_
       try simp only[pU]
       refine zAa 61 (some 4) rfl rfl (by kernel_rfl) rfl (by rfl) (fun W hW=>by go_simp<;>with_reducible rfl) ?_
       try simp only[pU]
       refine zAi (by kernel_rfl) ?_ _
       go_wp2
       go_ret
       exact⟨rfl,HBw.out.trans (Below.mono HB9.out HBw.out.size)⟩
      | true=>
       refine zAa 39 (some 44) rfl rfl (by kernel_rfl) rfl (by rfl) (fun W hW=>by go_simp<;>with_reducible rfl) ?_
       try simp only[pU]
       refine zAa 40 (some 45) rfl rfl (by kernel_rfl) rfl (by rfl) (fun W hW=>by go_simp<;>with_reducible rfl) ?_
       try simp only[pU]
       refine zAa 41 (some 46) rfl rfl (by kernel_rfl) rfl (by rfl) (fun W hW=>by go_simp<;>with_reducible rfl) ?_
       try simp only[pU]
       refine zAa 42 (some 47) (v:=a7) rfl rfl (by kernel_rfl) rfl (by rfl) (fun W hW=>?ystttttt42) ?_
       case ystttttt42=>
        exact zAd _ _ _ rfl p1 19 rfl _ (A7.out W (HB9.out.trans (Below.mono hW HB9.out.size)))
       try simp only[pU]
       refine zAa 43 (some 48) rfl rfl (by kernel_rfl) rfl (by rfl) (fun W hW=>by go_simp<;>with_reducible rfl) ?_
       try simp only[pU]
       refine zAa 44 (some 49) (v:=c7) rfl rfl (by kernel_rfl) rfl (by rfl) (fun W hW=>?ystttttt44) ?_
       case ystttttt44=>
        exact zAd _ _ _ rfl p2 19 rfl _ (B7.out W (HB9.out.trans (Below.mono hW HB9.out.size)))
       try simp only[pU]
       refine zAc 45 rfl (by kernel_rfl) (fun K hK=>?_)
       go_simp
       refine (S7.out _ HB9.out).mono ?_
       rintro e w10 ⟨rfl,hb⟩
       have HB10:=hT HB9 hb
       refine hK.out _ _ hb ?_
       clear hK K hb
       try simp only[pU]
       cases b7 with
       | false=>
        obtain rfl:=HV7.out rfl
        refine zAa 46 (some 51) rfl rfl (by kernel_rfl) rfl (by rfl) (fun W hW=>by go_simp<;>with_reducible rfl) ?_
        try simp only[pU]
        refine zAa 47 (some 52) rfl rfl (by kernel_rfl) rfl (by rfl) (fun W hW=>by go_simp<;>with_reducible rfl) ?_
        try simp only[pU]
        refine zAb 48 (some 53) rfl rfl (by kernel_rfl) rfl (by rfl) ?_
        try simp only[pU]
        refine zAb 49 (some 54) rfl rfl (by kernel_rfl) rfl (by rfl) ?_
        try simp only[pU]
        refine zAb 50 (some 55) rfl rfl (by kernel_rfl) rfl (by rfl) ?_
        try simp only[pU]
        refine zAb 51 (some 56) rfl rfl (by kernel_rfl) rfl (by rfl) ?_
        try simp only[pU]
        refine zAb 52 (some 57) rfl rfl (by kernel_rfl) rfl (by rfl) ?_
        try simp only[pU]
        refine zAa 53 (some 58) rfl rfl (by kernel_rfl) rfl (by rfl) (fun W hW=>by go_simp<;>with_reducible rfl) ?_
        try simp only[pU]
        refine zAa 54 (some 59) rfl rfl (by kernel_rfl) rfl (by rfl) (fun W hW=>by go_simp<;>with_reducible rfl) ?_
        try simp only[pU]
        refine zAb 55 (some 60) rfl rfl (by kernel_rfl) rfl (by rfl) ?_
        try simp only[pU]
        refine zAb 56 (some 61) rfl rfl (by kernel_rfl) rfl (by rfl) ?_
        try simp only[pU]
        refine zAb 57 (some 62) rfl rfl (by kernel_rfl) rfl (by rfl) ?_
        try simp only[pU]
        refine zAb 58 (some 63) rfl rfl (by kernel_rfl) rfl (by rfl) ?_
        try simp only[pU]
        refine zAb 59 (some 64) rfl rfl (by kernel_rfl) rfl (by rfl) ?_
        try simp only[pU]
        refine zAa 60 (some 65) rfl rfl (by kernel_rfl) rfl (by rfl) (fun W hW=>by go_simp<;>with_reducible rfl) ?_
        try simp only[pU]
        refine zAa 61 (some 4) rfl rfl (by kernel_rfl) rfl (by rfl) (fun W hW=>by go_simp<;>with_reducible rfl) ?_
        try simp only[pU]
        refine zAi (by kernel_rfl) ?_ _
        go_wp2
        go_ret
        exact⟨rfl,HBw.out.trans (Below.mono HB10.out HBw.out.size)⟩
       | true=>
        refine zAa 46 (some 51) rfl rfl (by kernel_rfl) rfl (by rfl) (fun W hW=>by go_simp<;>with_reducible rfl) ?_
        try simp only[pU]
        refine zAa 47 (some 52) rfl rfl (by kernel_rfl) rfl (by rfl) (fun W hW=>by go_simp<;>with_reducible rfl) ?_
        try simp only[pU]
        refine zAa 48 (some 53) rfl rfl (by kernel_rfl) rfl (by rfl) (fun W hW=>by go_simp<;>with_reducible rfl) ?_
        try simp only[pU]
        refine zAa 49 (some 54) (v:=a8) rfl rfl (by kernel_rfl) rfl (by rfl) (fun W hW=>?ysttttttt49) ?_
        case ysttttttt49=>
         exact zAd _ _ _ rfl p1 30 rfl _ (A8.out W (HB10.out.trans (Below.mono hW HB10.out.size)))
        try simp only[pU]
        refine zAa 50 (some 55) rfl rfl (by kernel_rfl) rfl (by rfl) (fun W hW=>by go_simp<;>with_reducible rfl) ?_
        try simp only[pU]
        refine zAa 51 (some 56) (v:=c8) rfl rfl (by kernel_rfl) rfl (by rfl) (fun W hW=>?ysttttttt51) ?_
        case ysttttttt51=>
         exact zAd _ _ _ rfl p2 30 rfl _ (B8.out W (HB10.out.trans (Below.mono hW HB10.out.size)))
        try simp only[pU]
        refine zAc 52 rfl (by kernel_rfl) (fun K hK=>?_)
        go_simp
        refine (S8.out _ HB10.out).mono ?_
        rintro e w11 ⟨rfl,hb⟩
        have HB11:=hT HB10 hb
        refine hK.out _ _ hb ?_
        clear hK K hb
        try simp only[pU]
        cases b8 with
        | false=>
         obtain rfl:=HV8.out rfl
         refine zAa 53 (some 58) rfl rfl (by kernel_rfl) rfl (by rfl) (fun W hW=>by go_simp<;>with_reducible rfl) ?_
         try simp only[pU]
         refine zAa 54 (some 59) rfl rfl (by kernel_rfl) rfl (by rfl) (fun W hW=>by go_simp<;>with_reducible rfl) ?_
         try simp only[pU]
         refine zAb 55 (some 60) rfl rfl (by kernel_rfl) rfl (by rfl) ?_
         try simp only[pU]
         refine zAb 56 (some 61) rfl rfl (by kernel_rfl) rfl (by rfl) ?_
         try simp only[pU]
         refine zAb 57 (some 62) rfl rfl (by kernel_rfl) rfl (by rfl) ?_
         try simp only[pU]
         refine zAb 58 (some 63) rfl rfl (by kernel_rfl) rfl (by rfl) ?_
         try simp only[pU]
         refine zAb 59 (some 64) rfl rfl (by kernel_rfl) rfl (by rfl) ?_
         try simp only[pU]
         refine zAa 60 (some 65) rfl rfl (by kernel_rfl) rfl (by rfl) (fun W hW=>by go_simp<;>with_reducible rfl) ?_
         try simp only[pU]
         refine zAa 61 (some 4) rfl rfl (by kernel_rfl) rfl (by rfl) (fun W hW=>by go_simp<;>with_reducible rfl) ?_
         try simp only[pU]
         refine zAi (by kernel_rfl) ?_ _
         go_wp2
         go_ret
         exact⟨rfl,HBw.out.trans (Below.mono HB11.out HBw.out.size)⟩
        | true=>
         refine zAa 53 (some 58) rfl rfl (by kernel_rfl) rfl (by rfl) (fun W hW=>by go_simp<;>with_reducible rfl) ?_
         try simp only[pU]
         refine zAa 54 (some 59) rfl rfl (by kernel_rfl) rfl (by rfl) (fun W hW=>by go_simp<;>with_reducible rfl) ?_
         try simp only[pU]
         refine zAa 55 (some 60) rfl rfl (by kernel_rfl) rfl (by rfl) (fun W hW=>by go_simp<;>with_reducible rfl) ?_
         try simp only[pU]
         refine zAa 56 (some 61) (v:=a9) rfl rfl (by kernel_rfl) rfl (by rfl) (fun W hW=>?ystttttttt56) ?_
         case ystttttttt56=>
          exact zAd _ _ _ rfl p1 31 rfl _ (A9.out W (HB11.out.trans (Below.mono hW HB11.out.size)))
         try simp only[pU]
         refine zAa 57 (some 62) rfl rfl (by kernel_rfl) rfl (by rfl) (fun W hW=>by go_simp<;>with_reducible rfl) ?_
         try simp only[pU]
         refine zAa 58 (some 63) (v:=c9) rfl rfl (by kernel_rfl) rfl (by rfl) (fun W hW=>?ystttttttt58) ?_
         case ystttttttt58=>
          exact zAd _ _ _ rfl p2 31 rfl _ (B9.out W (HB11.out.trans (Below.mono hW HB11.out.size)))
         try simp only[pU]
         refine zAc 59 rfl (by kernel_rfl) (fun K hK=>?_)
         go_simp
         refine (S9.out _ HB11.out).mono ?_
         rintro e w12 ⟨rfl,hb⟩
         have HB12:=hT HB11 hb
         refine hK.out _ _ hb ?_
         clear hK K hb
         try simp only[pU]
         cases b9 with
         | false=>
          obtain rfl:=HV9.out rfl
          refine zAa 60 (some 65) rfl rfl (by kernel_rfl) rfl (by rfl) (fun W hW=>by go_simp<;>with_reducible rfl) ?_
          try simp only[pU]
          refine zAa 61 (some 4) rfl rfl (by kernel_rfl) rfl (by rfl) (fun W hW=>by go_simp<;>with_reducible rfl) ?_
          try simp only[pU]
          refine zAi (by kernel_rfl) ?_ _
          go_wp2
          go_ret
          exact⟨rfl,HBw.out.trans (Below.mono HB12.out HBw.out.size)⟩
         | true=>
          refine zAa 60 (some 65) rfl rfl (by kernel_rfl) rfl (by rfl) (fun W hW=>by go_simp<;>with_reducible rfl) ?_
          try simp only[pU]
          refine zAa 61 (some 4) rfl rfl (by kernel_rfl) rfl (by rfl) (fun W hW=>by go_simp<;>with_reducible rfl) ?_
          try simp only[pU]
          refine zAi (by kernel_rfl) ?_ _
          obtain rfl:=HV.out rfl rfl rfl rfl rfl rfl rfl rfl rfl
          go_wp2
          go_ret
          exact⟨rfl,HBw.out.trans (Below.mono HB12.out HBw.out.size)⟩
end Go.Proofs.YtcpjmgfloimfhaaGreat
