/- Two messages compared by the reference. By an AI agent. -/
import Derived.Test.YtcpjmgfloimfhaaGreatRSameL
set_option linter.unusedSimpArgs false
set_option linter.unusedVariables false
set_option maxRecDepth 100000
set_option maxHeartbeats 32000000
namespace Go.Proofs.YtcpjmgfloimfhaaGreat
open Go.RowKit
set_option linter.unusedVariables false
theorem rsame_no18 (w:World) (cx cy:List Value) (HX:Hid (Blk ((w.alloc (.cells cx.toArray 30)).alloc (.cells cy.toArray 30)) w.heap.size cx)) (HY:Hid (Blk ((w.alloc (.cells cx.toArray 30)).alloc (.cells cy.toArray 30)) (w.heap.size+1) cy)) (HBw:Hid (Below w.heap.size w ((w.alloc (.cells cx.toArray 30)).alloc (.cells cy.toArray 30)))) (x0:Int) (hx0:cx[0]?=some (.int .i64 x0)) (hy0:cy[0]?=some (.int .i64 x0)) (x1:Int) (hx1:cx[1]?=some (.int .i64 x1)) (hy1:cy[1]?=some (.int .i64 x1)) (x2:ByteArray) (hx2:cx[2]?=some (.string x2)) (hy2:cy[2]?=some (.string x2)) (x3:ByteArray) (hx3:cx[3]?=some (.string x3)) (hy3:cy[3]?=some (.string x3)) (x4:Int) (hx4:cx[4]?=some (.int .i64 x4)) (hy4:cy[4]?=some (.int .i64 x4)) (x5:Int) (hx5:cx[5]?=some (.int .i64 x5)) (hy5:cy[5]?=some (.int .i64 x5)) (x6:Int) (hx6:cx[6]?=some (.int .i64 x6)) (hy6:cy[6]?=some (.int .i64 x6)) (x7:Int) (hx7:cx[7]?=some (.int .i64 x7)) (hy7:cy[7]?=some (.int .i64 x7)) (x8:Int) (hx8:cx[8]?=some (.int .i64 x8)) (hy8:cy[8]?=some (.int .i64 x8)) (x9:Bool) (hx9:cx[9]?=some (.bool x9)) (hy9:cy[9]?=some (.bool x9)) (x10:ByteArray) (hx10:cx[20]?=some (.string x10)) (hy10:cy[20]?=some (.string x10)) (x11:Bool) (hx11:cx[21]?=some (.bool x11)) (hy11:cy[21]?=some (.bool x11)) (x12:Bool) (hx12:cx[22]?=some (.bool x12)) (hy12:cy[22]?=some (.bool x12)) (x13:ByteArray) (hx13:cx[23]?=some (.string x13)) (hy13:cy[23]?=some (.string x13)) (x14:ByteArray) (hx14:cx[24]?=some (.string x14)) (hy14:cy[24]?=some (.string x14)) (x15:ByteArray) (hx15:cx[25]?=some (.string x15)) (hy15:cy[25]?=some (.string x15)) (x16:Int) (hx16:cx[26]?=some (.int .i64 x16)) (hy16:cy[26]?=some (.int .i64 x16)) (x17:Int) (hx17:cx[27]?=some (.int .i64 x17)) (hy17:cy[27]?=some (.int .i64 x17)) (a b:ByteArray) (hx18:cx[28]?=some (.string a)) (hy18:cy[28]?=some (.string b)) (hne:¬a=b) (hn3:(a.toList==b.toList)=false):
  Calls Tryz.prog 16 #[.agg cx.toArray,.agg cy.toArray] w fun e w'=>e=.returned (.bool false)∧Below w.heap.size w w':=by
 have k0:=HX.out.cells 0 _ hx0
 have q0:=HY.out.cells 0 _ hy0
 have k1:=HX.out.cells 1 _ hx1
 have q1:=HY.out.cells 1 _ hy1
 have k2:=HX.out.cells 2 _ hx2
 have q2:=HY.out.cells 2 _ hy2
 have k3:=HX.out.cells 3 _ hx3
 have q3:=HY.out.cells 3 _ hy3
 have k4:=HX.out.cells 4 _ hx4
 have q4:=HY.out.cells 4 _ hy4
 have k5:=HX.out.cells 5 _ hx5
 have q5:=HY.out.cells 5 _ hy5
 have k6:=HX.out.cells 6 _ hx6
 have q6:=HY.out.cells 6 _ hy6
 have k7:=HX.out.cells 7 _ hx7
 have q7:=HY.out.cells 7 _ hy7
 have k8:=HX.out.cells 8 _ hx8
 have q8:=HY.out.cells 8 _ hy8
 have k9:=HX.out.cells 9 _ hx9
 have q9:=HY.out.cells 9 _ hy9
 have k10:=HX.out.cells 20 _ hx10
 have q10:=HY.out.cells 20 _ hy10
 have k11:=HX.out.cells 21 _ hx11
 have q11:=HY.out.cells 21 _ hy11
 have k12:=HX.out.cells 22 _ hx12
 have q12:=HY.out.cells 22 _ hy12
 have k13:=HX.out.cells 23 _ hx13
 have q13:=HY.out.cells 23 _ hy13
 have k14:=HX.out.cells 24 _ hx14
 have q14:=HY.out.cells 24 _ hy14
 have k15:=HX.out.cells 25 _ hx15
 have q15:=HY.out.cells 25 _ hy15
 have k16:=HX.out.cells 26 _ hx16
 have q16:=HY.out.cells 26 _ hy16
 have k17:=HX.out.cells 27 _ hx17
 have q17:=HY.out.cells 27 _ hy17
 have k18:=HX.out.cells 28 _ hx18
 have q18:=HY.out.cells 28 _ hy18
 clear hx0 hy0 hx1 hy1 hx2 hy2 hx3 hy3 hx4 hy4 hx5 hy5 hx6 hy6 hx7 hy7 hx8 hy8 hx9 hy9 hx10 hy10 hx11 hy11 hx12 hy12 hx13 hy13 hx14 hy14 hx15 hy15 hx16 hy16 hx17 hy17 hx18 hy18 HX HY
 go_enter Tryz.func16,Tryz.ntmps16
 go_wp2
 go_ret
 exact⟨rfl,HBw.out⟩
end Go.Proofs.YtcpjmgfloimfhaaGreat
