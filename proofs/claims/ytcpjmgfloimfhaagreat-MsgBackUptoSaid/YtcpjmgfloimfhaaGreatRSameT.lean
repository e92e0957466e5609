/- Two messages compared by the reference. By an AI agent. -/
import Derived.Test.YtcpjmgfloimfhaaGreatRSameL
set_option linter.unusedSimpArgs false
set_option linter.unusedVariables false
set_option maxRecDepth 100000
set_option maxHeartbeats 32000000
namespace Go.Proofs.YtcpjmgfloimfhaaGreat
open Go.RowKit
theorem rsame_tail (w:World) (cx cy:List Value) (HX:Hid (Blk ((w.alloc (.cells cx.toArray 30)).alloc (.cells cy.toArray 30)) w.heap.size cx)) (HY:Hid (Blk ((w.alloc (.cells cx.toArray 30)).alloc (.cells cy.toArray 30)) (w.heap.size+1) cy)) (HBw:Hid (Below w.heap.size w ((w.alloc (.cells cx.toArray 30)).alloc (.cells cy.toArray 30)))) (w2:World) (p1 p2:Nat) (Hw:Hid (((w.alloc (.cells cx.toArray 30)).alloc (.cells cy.toArray 30))=w2)) (Hp:Hid (w.heap.size=p1/\w.heap.size+1=p2)) (HX2:Hid (Blk w2 p1 cx)) (HY2:Hid (Blk w2 p2 cy)) (HBw2:Hid (Below w.heap.size w w2)) (x0:Int) (hx0:cx[0]?=some (.int .i64 x0)) (hy0:cy[0]?=some (.int .i64 x0)) (x1:Int) (hx1:cx[1]?=some (.int .i64 x1)) (hy1:cy[1]?=some (.int .i64 x1)) (x2:ByteArray) (hx2:cx[2]?=some (.string x2)) (hy2:cy[2]?=some (.string x2)) (x3:ByteArray) (hx3:cx[3]?=some (.string x3)) (hy3:cy[3]?=some (.string x3)) (x4:Int) (hx4:cx[4]?=some (.int .i64 x4)) (hy4:cy[4]?=some (.int .i64 x4)) (x5:Int) (hx5:cx[5]?=some (.int .i64 x5)) (hy5:cy[5]?=some (.int .i64 x5)) (x6:Int) (hx6:cx[6]?=some (.int .i64 x6)) (hy6:cy[6]?=some (.int .i64 x6)) (x7:Int) (hx7:cx[7]?=some (.int .i64 x7)) (hy7:cy[7]?=some (.int .i64 x7)) (x8:Int) (hx8:cx[8]?=some (.int .i64 x8)) (hy8:cy[8]?=some (.int .i64 x8)) (x9:Bool) (hx9:cx[9]?=some (.bool x9)) (hy9:cy[9]?=some (.bool x9)) (x10:ByteArray) (hx10:cx[20]?=some (.string x10)) (hy10:cy[20]?=some (.string x10)) (x11:Bool) (hx11:cx[21]?=some (.bool x11)) (hy11:cy[21]?=some (.bool x11)) (x12:Bool) (hx12:cx[22]?=some (.bool x12)) (hy12:cy[22]?=some (.bool x12)) (x13:ByteArray) (hx13:cx[23]?=some (.string x13)) (hy13:cy[23]?=some (.string x13)) (x14:ByteArray) (hx14:cx[24]?=some (.string x14)) (hy14:cy[24]?=some (.string x14)) (x15:ByteArray) (hx15:cx[25]?=some (.string x15)) (hy15:cy[25]?=some (.string x15)) (x16:Int) (hx16:cx[26]?=some (.int .i64 x16)) (hy16:cy[26]?=some (.int .i64 x16)) (x17:Int) (hx17:cx[27]?=some (.int .i64 x17)) (hy17:cy[27]?=some (.int .i64 x17)) (x18:ByteArray) (hx18:cx[28]?=some (.string x18)) (hy18:cy[28]?=some (.string x18)) (x19:ByteArray) (hx19:cx[29]?=some (.string x19)) (hy19:cy[29]?=some (.string x19)) (f0 f1 f2 f3 f4 f5 f6 g0 g1 g2 g3 g4 g5 g6:Value) (b4 b5 b6 b7 b8 b9:Bool) (FX:Hid (∀(j:Nat) (u:Value),[f0,f1,f2,f3,f4,f5,f6][j]?=some u->cx[10+j]?=some u)) (FY:Hid (∀(j:Nat) (u:Value),[g0,g1,g2,g3,g4,g5,g6][j]?=some u->cy[10+j]?=some u)) (u5 v5:Value) (X5:Hid (cx[17]?=some u5)) (Y5:Hid (cy[17]?=some v5)) (u6 v6:Value) (X6:Hid (cx[18]?=some u6)) (Y6:Hid (cy[18]?=some v6)) (u7 v7:Value) (X7:Hid (cx[19]?=some u7)) (Y7:Hid (cy[19]?=some v7)) (u8 v8:Value) (X8:Hid (cx[30]?=some u8)) (Y8:Hid (cy[30]?=some v8)) (u9 v9:Value) (X9:Hid (cx[31]?=some u9)) (Y9:Hid (cy[31]?=some v9))
  (S4:Hid (∀W,Below w2.heap.size w2 W->Calls Tryz.prog 41 #[.agg #[f0,f1,f2,f3,f4,f5,f6],.agg #[g0,g1,g2,g3,g4,g5,g6]] W fun e w'=>e=.returned (.bool b4)/\Below W.heap.size W w'))
  (S5:Hid (∀W,Below w2.heap.size w2 W->Calls Tryz.prog 42 #[u5,v5] W fun e w'=>e=.returned (.bool b5)/\Below W.heap.size W w'))
  (S6:Hid (∀W,Below w2.heap.size w2 W->Calls Tryz.prog 43 #[u6,v6] W fun e w'=>e=.returned (.bool b6)/\Below W.heap.size W w'))
  (S7:Hid (∀W,Below w2.heap.size w2 W->Calls Tryz.prog 44 #[u7,v7] W fun e w'=>e=.returned (.bool b7)/\Below W.heap.size W w'))
  (S8:Hid (∀W,Below w2.heap.size w2 W->Calls Tryz.prog 42 #[u8,v8] W fun e w'=>e=.returned (.bool b8)/\Below W.heap.size W w'))
  (S9:Hid (∀W,Below w2.heap.size w2 W->Calls Tryz.prog 45 #[u9,v9] W fun e w'=>e=.returned (.bool b9)/\Below W.heap.size W w')):
  Calls Tryz.prog 16 #[.agg cx.toArray,.agg cy.toArray] w fun e w'=>e=.returned (.bool (b4&&(b5&&(b6&&(b7&&(b8&&b9))))))/\Below w.heap.size w w':=by
 have k0:=HX.out.cells 0 _ hx0
 have q0:=HY.out.cells 0 _ hy0
 have k1:=HX.out.cells 1 _ hx1
 have q1:=HY.out.cells 1 _ hy1
 have k2:=HX.out.cells 2 _ hx2
 have q2:=HY.out.cells 2 _ hy2
 have k3:=HX.out.cells 3 _ hx3
 have q3:=HY.out.cells 3 _ hy3
 have k4:=HX.out.cells 4 _ hx4
 have q4:=HY.out.cells 4 _ hy4
 have k5:=HX.out.cells 5 _ hx5
 have q5:=HY.out.cells 5 _ hy5
 have k6:=HX.out.cells 6 _ hx6
 have q6:=HY.out.cells 6 _ hy6
 have k7:=HX.out.cells 7 _ hx7
 have q7:=HY.out.cells 7 _ hy7
 have k8:=HX.out.cells 8 _ hx8
 have q8:=HY.out.cells 8 _ hy8
 have k9:=HX.out.cells 9 _ hx9
 have q9:=HY.out.cells 9 _ hy9
 have k10:=HX.out.cells 20 _ hx10
 have q10:=HY.out.cells 20 _ hy10
 have k11:=HX.out.cells 21 _ hx11
 have q11:=HY.out.cells 21 _ hy11
 have k12:=HX.out.cells 22 _ hx12
 have q12:=HY.out.cells 22 _ hy12
 have k13:=HX.out.cells 23 _ hx13
 have q13:=HY.out.cells 23 _ hy13
 have k14:=HX.out.cells 24 _ hx14
 have q14:=HY.out.cells 24 _ hy14
 have k15:=HX.out.cells 25 _ hx15
 have q15:=HY.out.cells 25 _ hy15
 have k16:=HX.out.cells 26 _ hx16
 have q16:=HY.out.cells 26 _ hy16
 have k17:=HX.out.cells 27 _ hx17
 have q17:=HY.out.cells 27 _ hy17
 have k18:=HX.out.cells 28 _ hx18
 have q18:=HY.out.cells 28 _ hy18
 have k19:=HX.out.cells 29 _ hx19
 have q19:=HY.out.cells 29 _ hy19
 clear hx0 hy0 hx1 hy1 hx2 hy2 hx3 hy3 hx4 hy4 hx5 hy5 hx6 hy6 hx7 hy7 hx8 hy8 hx9 hy9 hx10 hy10 hx11 hy11 hx12 hy12 hx13 hy13 hx14 hy14 hx15 hy15 hx16 hy16 hx17 hy17 hx18 hy18 hx19 hy19
 have RX:Hid (w2.rangeAt p1 10 [f0,f1,f2,f3,f4,f5,f6]):=hide (HX2.out.part 10 _ FX.out)
 have RY:Hid (w2.rangeAt p2 10 [g0,g1,g2,g3,g4,g5,g6]):=hide (HY2.out.part 10 _ FY.out)
 have HB2:Hid (Below w2.heap.size w2 w2):=hide (Below.refl _ _)
 go_enter Tryz.func16,Tryz.ntmps16
 go_upto_region 5 with fail
 rw[Hw.out]
 try rw[Hp.out.2]
 rw[Hp.out.1]
 clear k0 q0 k1 q1 k2 q2 k3 q3 k4 q4 k5 q5 k6 q6 k7 q7 k8 q8 k9 q9 k10 q10 k11 q11 k12 q12 k13 q13 k14 q14 k15 q15 k16 q16 k17 q17 k18 q18 k19 q19
 go_wp2_with (first | (go_at_call 41;fail) | (refine wpList_load_mid rfl 25 (.tmp 141) rfl p1 10 rfl [f0,f1,f2,f3,f4,f5,f6] _ RX.out Tryz.underlying25 rfl (by kernel_rfl) ?_) | (refine wpList_load_mid rfl 25 (.tmp 143) rfl p2 10 rfl [g0,g1,g2,g3,g4,g5,g6] _ RY.out Tryz.underlying25 rfl (by kernel_rfl) ?_))
 clear RX RY FX FY
 refine (S4.out _ HB2.out).mono ?_
 rintro e w3 ⟨rfl,hb⟩
 have HB3:=hT HB2 hb
 clear hb S4
 cases b4 with
 | false=>
  go_wp2
  go_ret
  exact⟨rfl,HBw2.out.trans (HB3.out.mono HBw2.out.size)⟩
 | true=>
  have kx:=(HX2.out.fr (Fr.of (X:=fun _=>False) HB3.out) id).cells 17 _ X5.out
  have ky:=(HY2.out.fr (Fr.of (X:=fun _=>False) HB3.out) id).cells 17 _ Y5.out
  go_wp2_with (go_at_call 42;fail)
  clear kx ky
  refine (S5.out _ HB3.out).mono ?_
  rintro e w4 ⟨rfl,hb⟩
  have HB4:=hT HB3 hb
  clear hb S5
  cases b5 with
  | false=>
   go_wp2
   go_ret
   exact⟨rfl,HBw2.out.trans (HB4.out.mono HBw2.out.size)⟩
  | true=>
   have kx:=(HX2.out.fr (Fr.of (X:=fun _=>False) HB4.out) id).cells 18 _ X6.out
   have ky:=(HY2.out.fr (Fr.of (X:=fun _=>False) HB4.out) id).cells 18 _ Y6.out
   go_wp2_with (go_at_call 43;fail)
   clear kx ky
   refine (S6.out _ HB4.out).mono ?_
   rintro e w5 ⟨rfl,hb⟩
   have HB5:=hT HB4 hb
   clear hb S6
   cases b6 with
   | false=>
    go_wp2
    go_ret
    exact⟨rfl,HBw2.out.trans (HB5.out.mono HBw2.out.size)⟩
   | true=>
    have kx:=(HX2.out.fr (Fr.of (X:=fun _=>False) HB5.out) id).cells 19 _ X7.out
    have ky:=(HY2.out.fr (Fr.of (X:=fun _=>False) HB5.out) id).cells 19 _ Y7.out
    go_wp2_with (go_at_call 44;fail)
    clear kx ky
    refine (S7.out _ HB5.out).mono ?_
    rintro e w6 ⟨rfl,hb⟩
    have HB6:=hT HB5 hb
    clear hb S7
    cases b7 with
    | false=>
     go_wp2
     go_ret
     exact⟨rfl,HBw2.out.trans (HB6.out.mono HBw2.out.size)⟩
    | true=>
     have kx:=(HX2.out.fr (Fr.of (X:=fun _=>False) HB6.out) id).cells 30 _ X8.out
     have ky:=(HY2.out.fr (Fr.of (X:=fun _=>False) HB6.out) id).cells 30 _ Y8.out
     go_wp2_with (go_at_call 42;fail)
     clear kx ky
     refine (S8.out _ HB6.out).mono ?_
     rintro e w7 ⟨rfl,hb⟩
     have HB7:=hT HB6 hb
     clear hb S8
     cases b8 with
     | false=>
      go_wp2
      go_ret
      exact⟨rfl,HBw2.out.trans (HB7.out.mono HBw2.out.size)⟩
     | true=>
      have kx:=(HX2.out.fr (Fr.of (X:=fun _=>False) HB7.out) id).cells 31 _ X9.out
      have ky:=(HY2.out.fr (Fr.of (X:=fun _=>False) HB7.out) id).cells 31 _ Y9.out
      go_wp2_with (go_at_call 45;fail)
      clear kx ky
      refine (S9.out _ HB7.out).mono ?_
      rintro e w8 ⟨rfl,hb⟩
      have HB8:=hT HB7 hb
      clear hb S9
      go_wp2
      go_ret
      exact⟨by cases b9<;>rfl,HBw2.out.trans (HB8.out.mono HBw2.out.size)⟩
end Go.Proofs.YtcpjmgfloimfhaaGreat
