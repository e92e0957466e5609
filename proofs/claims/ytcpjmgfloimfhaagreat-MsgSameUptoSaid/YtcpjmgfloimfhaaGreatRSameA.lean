/- Two messages compared by the reference. By an AI agent. -/
import Derived.Test.YtcpjmgfloimfhaaGreatRSameL
set_option linter.unusedSimpArgs false
set_option linter.unusedVariables false
set_option maxRecDepth 100000
set_option maxHeartbeats 32000000
namespace Go.Proofs.YtcpjmgfloimfhaaGreat
open Go.RowKit
set_option linter.unusedVariables false
theorem rsame_no0 (w:World) (cx cy:List Value) (HX:Hid (Blk ((w.alloc (.cells cx.toArray 30)).alloc (.cells cy.toArray 30)) w.heap.size cx)) (HY:Hid (Blk ((w.alloc (.cells cx.toArray 30)).alloc (.cells cy.toArray 30)) (w.heap.size+1) cy)) (HBw:Hid (Below w.heap.size w ((w.alloc (.cells cx.toArray 30)).alloc (.cells cy.toArray 30)))) (a b:Int) (hx0:cx[0]?=some (.int .i64 a)) (hy0:cy[0]?=some (.int .i64 b)) (hne:¬a=b):
  Calls Tryz.prog 16 #[.agg cx.toArray,.agg cy.toArray] w fun e w'=>e=.returned (.bool false)∧Below w.heap.size w w':=by
 have k0:=HX.out.cells 0 _ hx0
 have q0:=HY.out.cells 0 _ hy0
 clear hx0 hy0 HX HY
 have hn1:(a==b)=false:=beq_false_of_ne hne
 have hn2:(a !=b)=true:=bne_iff_ne.2 hne
 go_enter Tryz.func16,Tryz.ntmps16
 go_wp2
 go_ret
 exact⟨rfl,HBw.out⟩
theorem rsame_no1 (w:World) (cx cy:List Value) (HX:Hid (Blk ((w.alloc (.cells cx.toArray 30)).alloc (.cells cy.toArray 30)) w.heap.size cx)) (HY:Hid (Blk ((w.alloc (.cells cx.toArray 30)).alloc (.cells cy.toArray 30)) (w.heap.size+1) cy)) (HBw:Hid (Below w.heap.size w ((w.alloc (.cells cx.toArray 30)).alloc (.cells cy.toArray 30)))) (x0:Int) (hx0:cx[0]?=some (.int .i64 x0)) (hy0:cy[0]?=some (.int .i64 x0)) (a b:Int) (hx1:cx[1]?=some (.int .i64 a)) (hy1:cy[1]?=some (.int .i64 b)) (hne:¬a=b):
  Calls Tryz.prog 16 #[.agg cx.toArray,.agg cy.toArray] w fun e w'=>e=.returned (.bool false)∧Below w.heap.size w w':=by
 have k0:=HX.out.cells 0 _ hx0
 have q0:=HY.out.cells 0 _ hy0
 have k1:=HX.out.cells 1 _ hx1
 have q1:=HY.out.cells 1 _ hy1
 clear hx0 hy0 hx1 hy1 HX HY
 have hn1:(a==b)=false:=beq_false_of_ne hne
 have hn2:(a !=b)=true:=bne_iff_ne.2 hne
 go_enter Tryz.func16,Tryz.ntmps16
 go_wp2
 go_ret
 exact⟨rfl,HBw.out⟩
theorem rsame_no2 (w:World) (cx cy:List Value) (HX:Hid (Blk ((w.alloc (.cells cx.toArray 30)).alloc (.cells cy.toArray 30)) w.heap.size cx)) (HY:Hid (Blk ((w.alloc (.cells cx.toArray 30)).alloc (.cells cy.toArray 30)) (w.heap.size+1) cy)) (HBw:Hid (Below w.heap.size w ((w.alloc (.cells cx.toArray 30)).alloc (.cells cy.toArray 30)))) (x0:Int) (hx0:cx[0]?=some (.int .i64 x0)) (hy0:cy[0]?=some (.int .i64 x0)) (x1:Int) (hx1:cx[1]?=some (.int .i64 x1)) (hy1:cy[1]?=some (.int .i64 x1)) (a b:ByteArray) (hx2:cx[2]?=some (.string a)) (hy2:cy[2]?=some (.string b)) (hne:¬a=b) (hn3:(a.toList==b.toList)=false):
  Calls Tryz.prog 16 #[.agg cx.toArray,.agg cy.toArray] w fun e w'=>e=.returned (.bool false)∧Below w.heap.size w w':=by
 have k0:=HX.out.cells 0 _ hx0
 have q0:=HY.out.cells 0 _ hy0
 have k1:=HX.out.cells 1 _ hx1
 have q1:=HY.out.cells 1 _ hy1
 have k2:=HX.out.cells 2 _ hx2
 have q2:=HY.out.cells 2 _ hy2
 clear hx0 hy0 hx1 hy1 hx2 hy2 HX HY
 go_enter Tryz.func16,Tryz.ntmps16
 go_wp2
 go_ret
 exact⟨rfl,HBw.out⟩
theorem rsame_no3 (w:World) (cx cy:List Value) (HX:Hid (Blk ((w.alloc (.cells cx.toArray 30)).alloc (.cells cy.toArray 30)) w.heap.size cx)) (HY:Hid (Blk ((w.alloc (.cells cx.toArray 30)).alloc (.cells cy.toArray 30)) (w.heap.size+1) cy)) (HBw:Hid (Below w.heap.size w ((w.alloc (.cells cx.toArray 30)).alloc (.cells cy.toArray 30)))) (x0:Int) (hx0:cx[0]?=some (.int .i64 x0)) (hy0:cy[0]?=some (.int .i64 x0)) (x1:Int) (hx1:cx[1]?=some (.int .i64 x1)) (hy1:cy[1]?=some (.int .i64 x1)) (x2:ByteArray) (hx2:cx[2]?=some (.string x2)) (hy2:cy[2]?=some (.string x2)) (a b:ByteArray) (hx3:cx[3]?=some (.string a)) (hy3:cy[3]?=some (.string b)) (hne:¬a=b) (hn3:(a.toList==b.toList)=false):
  Calls Tryz.prog 16 #[.agg cx.toArray,.agg cy.toArray] w fun e w'=>e=.returned (.bool false)∧Below w.heap.size w w':=by
 have k0:=HX.out.cells 0 _ hx0
 have q0:=HY.out.cells 0 _ hy0
 have k1:=HX.out.cells 1 _ hx1
 have q1:=HY.out.cells 1 _ hy1
 have k2:=HX.out.cells 2 _ hx2
 have q2:=HY.out.cells 2 _ hy2
 have k3:=HX.out.cells 3 _ hx3
 have q3:=HY.out.cells 3 _ hy3
 clear hx0 hy0 hx1 hy1 hx2 hy2 hx3 hy3 HX HY
 go_enter Tryz.func16,Tryz.ntmps16
 go_wp2
 go_ret
 exact⟨rfl,HBw.out⟩
theorem rsame_no4 (w:World) (cx cy:List Value) (HX:Hid (Blk ((w.alloc (.cells cx.toArray 30)).alloc (.cells cy.toArray 30)) w.heap.size cx)) (HY:Hid (Blk ((w.alloc (.cells cx.toArray 30)).alloc (.cells cy.toArray 30)) (w.heap.size+1) cy)) (HBw:Hid (Below w.heap.size w ((w.alloc (.cells cx.toArray 30)).alloc (.cells cy.toArray 30)))) (x0:Int) (hx0:cx[0]?=some (.int .i64 x0)) (hy0:cy[0]?=some (.int .i64 x0)) (x1:Int) (hx1:cx[1]?=some (.int .i64 x1)) (hy1:cy[1]?=some (.int .i64 x1)) (x2:ByteArray) (hx2:cx[2]?=some (.string x2)) (hy2:cy[2]?=some (.string x2)) (x3:ByteArray) (hx3:cx[3]?=some (.string x3)) (hy3:cy[3]?=some (.string x3)) (a b:Int) (hx4:cx[4]?=some (.int .i64 a)) (hy4:cy[4]?=some (.int .i64 b)) (hne:¬a=b):
  Calls Tryz.prog 16 #[.agg cx.toArray,.agg cy.toArray] w fun e w'=>e=.returned (.bool false)∧Below w.heap.size w w':=by
 have k0:=HX.out.cells 0 _ hx0
 have q0:=HY.out.cells 0 _ hy0
 have k1:=HX.out.cells 1 _ hx1
 have q1:=HY.out.cells 1 _ hy1
 have k2:=HX.out.cells 2 _ hx2
 have q2:=HY.out.cells 2 _ hy2
 have k3:=HX.out.cells 3 _ hx3
 have q3:=HY.out.cells 3 _ hy3
 have k4:=HX.out.cells 4 _ hx4
 have q4:=HY.out.cells 4 _ hy4
 clear hx0 hy0 hx1 hy1 hx2 hy2 hx3 hy3 hx4 hy4 HX HY
 have hn1:(a==b)=false:=beq_false_of_ne hne
 have hn2:(a !=b)=true:=bne_iff_ne.2 hne
 go_enter Tryz.func16,Tryz.ntmps16
 go_wp2
 go_ret
 exact⟨rfl,HBw.out⟩
theorem rsame_no5 (w:World) (cx cy:List Value) (HX:Hid (Blk ((w.alloc (.cells cx.toArray 30)).alloc (.cells cy.toArray 30)) w.heap.size cx)) (HY:Hid (Blk ((w.alloc (.cells cx.toArray 30)).alloc (.cells cy.toArray 30)) (w.heap.size+1) cy)) (HBw:Hid (Below w.heap.size w ((w.alloc (.cells cx.toArray 30)).alloc (.cells cy.toArray 30)))) (x0:Int) (hx0:cx[0]?=some (.int .i64 x0)) (hy0:cy[0]?=some (.int .i64 x0)) (x1:Int) (hx1:cx[1]?=some (.int .i64 x1)) (hy1:cy[1]?=some (.int .i64 x1)) (x2:ByteArray) (hx2:cx[2]?=some (.string x2)) (hy2:cy[2]?=some (.string x2)) (x3:ByteArray) (hx3:cx[3]?=some (.string x3)) (hy3:cy[3]?=some (.string x3)) (x4:Int) (hx4:cx[4]?=some (.int .i64 x4)) (hy4:cy[4]?=some (.int .i64 x4)) (a b:Int) (hx5:cx[5]?=some (.int .i64 a)) (hy5:cy[5]?=some (.int .i64 b)) (hne:¬a=b):
  Calls Tryz.prog 16 #[.agg cx.toArray,.agg cy.toArray] w fun e w'=>e=.returned (.bool false)∧Below w.heap.size w w':=by
 have k0:=HX.out.cells 0 _ hx0
 have q0:=HY.out.cells 0 _ hy0
 have k1:=HX.out.cells 1 _ hx1
 have q1:=HY.out.cells 1 _ hy1
 have k2:=HX.out.cells 2 _ hx2
 have q2:=HY.out.cells 2 _ hy2
 have k3:=HX.out.cells 3 _ hx3
 have q3:=HY.out.cells 3 _ hy3
 have k4:=HX.out.cells 4 _ hx4
 have q4:=HY.out.cells 4 _ hy4
 have k5:=HX.out.cells 5 _ hx5
 have q5:=HY.out.cells 5 _ hy5
 clear hx0 hy0 hx1 hy1 hx2 hy2 hx3 hy3 hx4 hy4 hx5 hy5 HX HY
 have hn1:(a==b)=false:=beq_false_of_ne hne
 have hn2:(a !=b)=true:=bne_iff_ne.2 hne
 go_enter Tryz.func16,Tryz.ntmps16
 go_wp2
 go_ret
 exact⟨rfl,HBw.out⟩
theorem rsame_no6 (w:World) (cx cy:List Value) (HX:Hid (Blk ((w.alloc (.cells cx.toArray 30)).alloc (.cells cy.toArray 30)) w.heap.size cx)) (HY:Hid (Blk ((w.alloc (.cells cx.toArray 30)).alloc (.cells cy.toArray 30)) (w.heap.size+1) cy)) (HBw:Hid (Below w.heap.size w ((w.alloc (.cells cx.toArray 30)).alloc (.cells cy.toArray 30)))) (x0:Int) (hx0:cx[0]?=some (.int .i64 x0)) (hy0:cy[0]?=some (.int .i64 x0)) (x1:Int) (hx1:cx[1]?=some (.int .i64 x1)) (hy1:cy[1]?=some (.int .i64 x1)) (x2:ByteArray) (hx2:cx[2]?=some (.string x2)) (hy2:cy[2]?=some (.string x2)) (x3:ByteArray) (hx3:cx[3]?=some (.string x3)) (hy3:cy[3]?=some (.string x3)) (x4:Int) (hx4:cx[4]?=some (.int .i64 x4)) (hy4:cy[4]?=some (.int .i64 x4)) (x5:Int) (hx5:cx[5]?=some (.int .i64 x5)) (hy5:cy[5]?=some (.int .i64 x5)) (a b:Int) (hx6:cx[6]?=some (.int .i64 a)) (hy6:cy[6]?=some (.int .i64 b)) (hne:¬a=b):
  Calls Tryz.prog 16 #[.agg cx.toArray,.agg cy.toArray] w fun e w'=>e=.returned (.bool false)∧Below w.heap.size w w':=by
 have k0:=HX.out.cells 0 _ hx0
 have q0:=HY.out.cells 0 _ hy0
 have k1:=HX.out.cells 1 _ hx1
 have q1:=HY.out.cells 1 _ hy1
 have k2:=HX.out.cells 2 _ hx2
 have q2:=HY.out.cells 2 _ hy2
 have k3:=HX.out.cells 3 _ hx3
 have q3:=HY.out.cells 3 _ hy3
 have k4:=HX.out.cells 4 _ hx4
 have q4:=HY.out.cells 4 _ hy4
 have k5:=HX.out.cells 5 _ hx5
 have q5:=HY.out.cells 5 _ hy5
 have k6:=HX.out.cells 6 _ hx6
 have q6:=HY.out.cells 6 _ hy6
 clear hx0 hy0 hx1 hy1 hx2 hy2 hx3 hy3 hx4 hy4 hx5 hy5 hx6 hy6 HX HY
 have hn1:(a==b)=false:=beq_false_of_ne hne
 have hn2:(a !=b)=true:=bne_iff_ne.2 hne
 go_enter Tryz.func16,Tryz.ntmps16
 go_wp2
 go_ret
 exact⟨rfl,HBw.out⟩
end Go.Proofs.YtcpjmgfloimfhaaGreat
